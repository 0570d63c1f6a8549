import Derived.Test.YtklipelnjgpnjaaGreatDoorLotB36
import Derived.Test.YtklipelnjgpnjaaGreatDoorLotB21
import Derived.Test.YtklipelnjgpnjaaGreatDoorLotB22
import Derived.Test.YtklipelnjgpnjaaGreatDoorLotB18
import Derived.Test.YtklipelnjgpnjaaGreatDoorLotB9
import Derived.Test.YtklipelnjgpnjaaGreatDoorLotB1
import Derived.Test.YtklipelnjgpnjaaGreatDoorRows
import Derived.ProofKit
import Derived.OpenShut
import Derived.ShutString
import Derived.ChangeOld
import Derived.SizedLaws
import Derived.JoinedCond
import Derived.Test.YtklipelnjgpnjaaGreatDoorLotB8
import Derived.Deep.Slices
import Derived.Test.YtklipelnjgpnjaaGreatDoorLotB35
import Derived.Test.YtklipelnjgpnjaaGreatDoorLotB20
import Derived.Deep.DeepCutAuto
import Derived.Test.YtklipelnjgpnjaaGreatDoorLotB4
import Derived.Test.YtklipelnjgpnjaaGreatDoorLotB6
import Derived.Test.YtklipelnjgpnjaaGreatDoorLotB2
set_option maxHeartbeats 64000000
set_option maxRecDepth 100000
namespace Go.Proofs.YtklipelnjgpnjaaGreatDoor
open Go.RowKit
theorem b0h (full : Bool) {T : Tr} (hg : T.Good) (hd : (T.txt full).2 ≤ 200) {A : List Tk} {e : Tk} (he : e.kind = 0) (hA : A.map Tk.ky = T.ky full) : ∃ ns, a44 (A ++ [e]) = .ok ns ∧ ns.map (·.1.g) = T.flat := by
 obtain ⟨F, ns, h1, h2⟩ := (b0i full T hg).1 1 0 A [e] (Nat.le_refl _) a5l (by omega) hA (a7i (aZ0 he []))
 refine ⟨ns, ?_, h2⟩
 have h3 := a3Z (Nat.le_max_left F (a15 1 (A ++ [e]))) h1
 have h4 := aa4 (Nat.le_max_right F (a15 1 (A ++ [e]))) (a6Z _ 1 0 _ (by decide) (Nat.le_refl _))
 unfold a44
 rw [← h4, h3, D9]
 exact if_pos he
theorem o7.cast {s s' : List UInt8} {ks ks' : List Ky} {c : List UInt8 → Prop} (h : o7 s ks c) (hs : s = s') (hk : ks = ks') : o7 s' ks' c := by
 subst hs hk
 exact h
theorem a0M {s : List UInt8} {ks : List Ky} (h : o7 s ks a0E) : o7 (s ++ [32]) ks (fun _ => True) :=
 (h.app aC4 (fun r _ => a2p (b := 32) (by decide) r)).cast rfl (List.append_nil _)
theorem a4Z {k : Int} (h : 1 ≤ k ∧ k ≤ 13) : k8 (j9 k) = .ok (2, j9 k, 0) := by
 have : k = 1 ∨ k = 2 ∨ k = 3 ∨ k = 4 ∨ k = 5 ∨ k = 6 ∨ k = 7 ∨ k = 8 ∨ k = 9 ∨ k = 10 ∨ k = 11 ∨ k = 12 ∨ k = 13 := by omega
 rcases this with rfl | rfl | rfl | rfl | rfl | rfl | rfl | rfl | rfl | rfl | rfl | rfl | rfl <;> rfl
theorem a7a {k : Int} : o7 (a0s k) (a1p k) (fun _ => True) := by
 unfold a0s a1p
 by_cases h1 : k = 1
 ·rw [if_pos h1, if_pos h1]
  exact a0M (a04 (x := L3) rfl)
 ·rw [if_neg h1, if_neg h1]
  by_cases h2 : k = 2
  ·rw [if_pos h2, if_pos h2]
   exact a0M (a04 (x := J0) rfl)
  ·rw [if_neg h2, if_neg h2]
   exact a9g
theorem a7L {x : Ng} (hl : x.addr.length = 16) : o7 (I7 x) [kA x] a0E := by
 have hid := a4t hl
 refine a2x (k := kA x) fun r hr => ?_
 have h : k8 (kA x).2.1 = .ok ((kA x).1, (kA x).2.1, (kA x).2.2) := by
  unfold kA I7
  by_cases h3 : x.of = 3
  ·rw [if_pos h3, if_pos h3]
   exact ad5 (a3s 8 _ (by rw [hid, hl]))
  ·rw [if_neg h3, if_neg h3]
   exact af3 (by rw [List.length_take, hid, hl]; rfl)
 exact (a5v (Z9 h).1 hr).trans h
def a4p (x : Ng) : Prop := x.n ≤ 4294967295 ∧ x.m ≤ 4294967295
theorem aB5 {x : Ng} (ha : arG x.kind = some 0) (hg : a2W x) (hn : a4p x) : o7 (m4 x) (I2 x) a0E ∧ (K0 x.kind = false → o7 (m4 x) (I2 x) a19) := by
 obtain ⟨hf, hr, hl⟩ := hg
 obtain ⟨-, -, hm⟩ := a1Y hf hl
 obtain ⟨g1, g2, g3, g4, g5, g6, -⟩ := a2q hf hr
 have hk : x.kind = 1 ∨ x.kind = 2 ∨ x.kind = 10 ∨ x.kind = 11 ∨ x.kind = 12 ∨ x.kind = 13 ∨ x.kind = 14 ∨ x.kind = 15 ∨ x.kind = 16 := by
  rcases Z1 ha with ⟨h1, -⟩ | ⟨h1, -⟩ | ⟨-, h1⟩
  ·cases h1
  ·cases h1
  ·exact h1
 have ht : 6 ≤ x.kind → K0 x.kind = false → o7 (m4 x) (I2 x) a19 := fun h h2 => by
  unfold K0 at h2
  exact absurd h (of_decide_eq_false h2)
 have hall : ∀ {s ks}, o7 s ks (fun _ => True) → o7 s ks a0E := fun h => h.mono fun _ _ => trivial
 rcases hk with hk | hk | hk | hk | hk | hk | hk | hk | hk
 ·have h : o7 (m4 x) (I2 x) a19 := by
   rw [show m4 x = dec x.n by unfold m4; rw [hk]; rfl, show I2 x = [kN x.n] by unfold I2; rw [hk]; rfl]
   exact a23 hn.1
  exact ⟨h.mono fun _ => a1e, fun _ => h⟩
 ·have h : o7 (m4 x) (I2 x) a19 := by
   rw [show m4 x = a1D by unfold m4; rw [hk]; rfl, show I2 x = [kW a1D] by unfold I2; rw [hk]; rfl]
   exact aC9 (x := a1D) rfl (by decide)
  exact ⟨h.mono fun _ => a1e, fun _ => h⟩
 ·refine ⟨?_, ht (by omega)⟩
  rw [show m4 x = if x.side = 1 then a1C else a1E by unfold m4; rw [hk]; rfl, show I2 x = [kW (if x.side = 1 then a1C else a1E)] by unfold I2; rw [hk]; rfl]
  split
  ·exact a04 (x := a1C) rfl
  ·exact a04 (x := a1E) rfl
 ·have hof := a0p (show inG x.of 2 13 = true by unfold o4 at hm; rw [hk] at hm; exact hm)
  refine ⟨?_, ht (by omega)⟩
  rw [show m4 x = j9 x.of by unfold m4; rw [hk]; rfl, show I2 x = [kW (j9 x.of)] by unfold I2; rw [hk]; rfl]
  exact a04 (a4Z ⟨by omega, by omega⟩)
 ·refine ⟨?_, ht (by omega)⟩
  rw [show m4 x = [112, 114, 111, 116, 111, 32] ++ dec x.n by unfold m4; rw [hk]; rfl, show I2 x = [kW E0, kN x.n] by unfold I2; rw [hk]; rfl]
  exact ((a0M (a04 (x := E0) rfl)).app (a23 hn.1) (fun _ _ => trivial)).mono fun _ => a1e
 ·have hof := a0p (show inG x.of 2 3 = true by unfold o4 at hm; rw [hk] at hm; exact hm)
  refine ⟨?_, ht (by omega)⟩
  rw [show m4 x = j9 x.of ++ [32, 112, 114, 111, 116, 111, 32] ++ dec x.n by unfold m4; rw [hk]; rfl, show I2 x = [kW (j9 x.of), kW E0, kN x.n] by unfold I2; rw [hk]; rfl]
  refine o7.cast (((a0M (a04 (a4Z ⟨by omega, by omega⟩))).app (a0M (a04 (x := E0) rfl)) (fun _ _ => trivial)).app ((a23 hn.1).mono fun _ => a1e) (fun _ _ => trivial)) ?_ rfl
  simp [E0]
 ·refine ⟨?_, ht (by omega)⟩
  rw [show m4 x = a0s x.side ++ [104, 111, 115, 116, 32] ++ I7 x by unfold m4; rw [hk]; rfl, show I2 x = a1p x.side ++ [kW U0, kA x] by unfold I2; rw [hk]; rfl]
  refine o7.cast (((a7a (k := x.side)).app (a0M (a04 (x := U0) rfl)) (fun _ _ => trivial)).app (a7L hl) (fun _ _ => trivial)) ?_ (by simp)
  simp [U0]
 ·refine ⟨?_, ht (by omega)⟩
  rw [show m4 x = a0s x.side ++ [110, 101, 116, 32] ++ I7 x ++ [47] ++ dec x.bits.toNat by unfold m4; rw [hk]; rfl, show I2 x = a1p x.side ++ [kW U9, kA x, kS [47], kN x.bits.toNat] by unfold I2; rw [hk]; rfl]
  refine o7.cast (((((a7a (k := x.side)).app (a0M (a04 (x := U9) rfl)) (fun _ _ => trivial)).app (a7L hl) (fun _ _ => trivial)).app aC8 (fun r _ => a2p (b := 47) (by decide) r)).app ((a23 (n := x.bits.toNat) (by omega)).mono fun _ => a1e) (fun _ _ => trivial)) ?_ (by simp)
  simp [U9]
 ·have hof : x.of = 0 ∨ x.of = 4 ∨ x.of = 5 := by
   unfold o4 at hm
   rw [hk] at hm
   have h1 := (Bool.and_eq_true_iff.1 (show ((x.of == 0 || inG x.of 4 5) && inG x.side 0 2) = true from hm)).1
   rcases Bool.or_eq_true_iff.1 h1 with h2 | h2
   ·exact .inl (by simpa using h2)
   ·have := a0p h2
    omega
  refine ⟨?_, ht (by omega)⟩
  rw [show m4 x = (if x.of = 0 then [] else j9 x.of ++ [32]) ++ a0s x.side ++ (if x.n = x.m then [112, 111, 114, 116, 32] ++ dec x.n else [112, 111, 114, 116, 114, 97, 110, 103, 101, 32] ++ dec x.n ++ [45] ++ dec x.m) by unfold m4; rw [hk]; rfl, show I2 x = (if x.of = 0 then [] else [kW (j9 x.of)]) ++ a1p x.side ++ (if x.n = x.m then [kW J5, kN x.n] else [kW I3, kN x.n, kS [45], kN x.m]) by unfold I2; rw [hk]; rfl]
  have hN : o7 (if x.of = 0 then [] else j9 x.of ++ [32]) (if x.of = 0 then [] else [kW (j9 x.of)]) (fun _ => True) := by
   by_cases h0 : x.of = 0
   ·rw [if_pos h0, if_pos h0]; exact a9g
   ·rw [if_neg h0, if_neg h0]; exact a0M (a04 (a4Z ⟨by omega, by omega⟩))
  refine (hN.app a7a (fun _ _ => trivial)).app ?_ (fun _ _ => trivial)
  by_cases hnm : x.n = x.m
  ·rw [if_pos hnm, if_pos hnm]
   exact ((a0M (a04 (x := J5) rfl)).app (a23 hn.1) (fun _ _ => trivial)).mono fun _ => a1e
  ·rw [if_neg hnm, if_neg hnm]
   exact ((((a0M (a04 (x := I3) rfl)).app (a23 hn.1) (fun _ _ => trivial)).app a9f (fun r _ => a1e (a2p (b := 45) (by decide) r))).app (a23 hn.2) (fun _ _ => trivial)).mono fun _ => a1e
theorem aW5 {x : Ng} (h : arG x.kind = some 2) (hg : a2W x) : o7 (O0 x) [J9 x] a0E := by
 obtain ⟨hf, hr, hl⟩ := hg
 obtain ⟨-, -, hm⟩ := a1Y hf hl
 have hk : x.kind = 4 ∨ x.kind = 6 ∨ x.kind = 7 ∨ x.kind = 8 := by
  rcases Z1 h with ⟨h1, -⟩ | ⟨-, h1⟩ | ⟨h1, -⟩
  ·cases h1
  ·exact h1
  ·cases h1
 rcases hk with hk | hk | hk | hk
 ·have ho := a0p (show inG x.op 1 10 = true by unfold o4 at hm; rw [hk] at hm; exact hm)
  rw [show O0 x = a06 x.op by unfold O0; rw [hk]; rfl, show J9 x = kS (a06 x.op) by unfold J9; rw [hk]; rfl]
  refine a9i ?_
  have : x.op = 1 ∨ x.op = 2 ∨ x.op = 3 ∨ x.op = 4 ∨ x.op = 5 ∨ x.op = 6 ∨ x.op = 7 ∨ x.op = 8 ∨ x.op = 9 ∨ x.op = 10 := by omega
  rcases this with e | e | e | e | e | e | e | e | e | e <;> rw [e] <;> rfl
 ·have ho := a0p (show inG x.op 1 6 = true by unfold o4 at hm; rw [hk] at hm; exact hm)
  rw [show O0 x = a0R x.op by unfold O0; rw [hk]; rfl, show J9 x = kS (a0R x.op) by unfold J9; rw [hk]; rfl]
  refine a9i ?_
  have : x.op = 1 ∨ x.op = 2 ∨ x.op = 3 ∨ x.op = 4 ∨ x.op = 5 ∨ x.op = 6 := by omega
  rcases this with e | e | e | e | e | e <;> rw [e] <;> rfl
 ·rw [show O0 x = U8 by unfold O0; rw [hk]; rfl, show J9 x = kW U8 by unfold J9; rw [hk]; rfl]
  exact a04 (x := U8) rfl
 ·rw [show O0 x = wOr by unfold O0; rw [hk]; rfl, show J9 x = kW wOr by unfold J9; rw [hk]; rfl]
  exact a04 (x := wOr) rfl
theorem a5i {want : Bool} {s : List UInt8} {d : Nat} {ks : List Ky} {c : List UInt8 → Prop} (h : o7 s ks a0E) (h2 : o7 s ks c) : o7 (y9 want (s, d)).1 (a1S want ks) c := by
 cases want with
 | false => exact h2
 | true =>
  exact (((aC6.app h (fun _ _ => trivial)).app aC7 (fun r _ => a2p (b := 41) (by decide) r)).mono (fun _ _ => trivial)).cast rfl (by simp [a1S])
theorem b05 {d : UInt8} (hd : d ∈ [50, 51, 52]) (r : List UInt8) : k8 ([58] ++ d :: 93 :: r) = .ok (5, [58], 0) := by
 simp only [List.mem_cons, List.not_mem_nil, or_false] at hd
 rcases hd with rfl | rfl | rfl <;> rfl
theorem aX2 {n : Int} (h : 1 ≤ n ∧ n ≤ 4) : o7 (W9 n ++ [93]) (a5q n ++ [kS [93]]) (fun _ => True) := by
 have key : ∀ (m : Nat) (d : UInt8), dec m = [d] → d ∈ [50, 51, 52] → m ≤ 4294967295 → o7 ([58] ++ dec m ++ [93]) [kS [58], kN m, kS [93]] (fun _ => True) := fun m d hm hd hl => by
  have h1 : o7 [58] [kS [58]] (fun r => ∃ r', r = d :: 93 :: r') := a2x (k := kS [58]) fun r hr => by
   obtain ⟨r', rfl⟩ := hr
   exact b05 hd r'
  have h2 := (a23 hl).app a9h (fun r _ => a1e (a2p (b := 93) (by decide) r))
  exact (h1.app h2 (fun r _ => ⟨r, by rw [hm]; rfl⟩)).cast (by simp) rfl
 have : n = 1 ∨ n = 2 ∨ n = 3 ∨ n = 4 := by omega
 rcases this with rfl | rfl | rfl | rfl
 ·exact a9h
 ·exact key 2 50 (by decide) (by decide) (by decide)
 ·exact key 3 51 (by decide) (by decide) (by decide)
 ·exact key 4 52 (by decide) (by decide) (by decide)
theorem aX0 {n : Int} (h : 1 ≤ n ∧ n ≤ 4) (r : List UInt8) : a19 (W9 n ++ [93] ++ r) := by
 have : n = 1 ∨ n = 2 ∨ n = 3 ∨ n = 4 := by omega
 rcases this with rfl | rfl | rfl | rfl
 ·exact a1e (a2p (b := 93) (by decide) r)
 ·exact .inr ⟨50, r, rfl, by decide⟩
 ·exact .inr ⟨51, r, rfl, by decide⟩
 ·exact .inr ⟨52, r, rfl, by decide⟩
theorem a5x (full : Bool) : ∀ T : Tr, T.Good → T.Typed → (∀ x ∈ T.flat, a4p x) → o7 (T.txt full).1 (T.ky full) a0E ∧ (K0 T.root.kind = false → o7 (T.txt full).1 (T.ky full) a19)
 | .leaf x, hg, _, hn => aB5 hg.1 (hg.2 x (by simp [Tr.flat])) (hn x (by simp [Tr.flat]))
 | .one x p, hg, hty, hn => by
  obtain ⟨h1, hx, hp⟩ := hg.one
  obtain ⟨tp, tx⟩ : p.Typed ∧ K0 p.root.kind = M7 x.kind := hty
  obtain ⟨ih1, ih2⟩ := a5x full p hp tp (fun y hy => hn y (by simp [Tr.flat, hy]))
  obtain ⟨hf, hr, hl⟩ := hx
  obtain ⟨-, -, hm⟩ := a1Y hf hl
  rw [Tr.txt, Tr.ky]
  show _ ∧ (K0 x.kind = false → _)
  rcases a48 h1 with ⟨hk, -⟩ | ⟨hk, -⟩ | ⟨hk, -⟩
  ·have hof := a0p (show inG x.of 1 12 = true by unfold o4 at hm; rw [hk] at hm; exact hm)
   have hsz := (a2q hf hr).2.2.2.2.2.2.2.1 hk
   have hpC := ih2 (by rw [tx, hk]; rfl)
   rw [if_pos hk, if_pos hk]
   have h : o7 (j9 x.of ++ [91] ++ (p.txt full).1 ++ W9 x.size ++ [93]) (kW (j9 x.of) :: kS [91] :: (p.ky full ++ (a5q x.size ++ [kS [93]]))) (fun _ => True) := by
    have h1 := (a04 (a4Z (k := x.of) ⟨by omega, by omega⟩)).app aC5 (fun r _ => a2p (b := 91) (by decide) r)
    have h2 := h1.app hpC (fun _ _ => trivial)
    exact (h2.app (aX2 hsz) (fun r _ => aX0 hsz r)).cast (by simp) (by simp)
   exact ⟨h.mono fun _ _ => trivial, fun _ => h.mono fun _ _ => trivial⟩
  ·rw [if_neg (by omega), if_neg (by omega), if_neg (by omega), if_neg (by omega)]
   have hpC := ih2 (by rw [tx, hk]; rfl)
   have h : o7 ([45] ++ (y9 (m9 full (d4 p.root) (d4 x)) (p.txt full)).1) (kS [45] :: a1S (m9 full (d4 p.root) (d4 x)) (p.ky full)) a19 := a9f.app (a5i ih1 hpC) (fun _ _ => trivial)
   exact ⟨h.mono fun _ => a1e, fun _ => h⟩
  ·rw [if_neg (by omega), if_pos hk, if_neg (by omega), if_pos hk]
   exact ⟨(a0M (a04 (x := U1) rfl)).app (a5i ih1 ih1) (fun _ _ => trivial), fun h => by rw [hk] at h; cases h⟩
 | .two x p q, hg, hty, hn => by
  obtain ⟨h1, hx, hp, hq⟩ := hg.two
  obtain ⟨tp, tq, tx, ty⟩ : p.Typed ∧ q.Typed ∧ K0 p.root.kind = M7 x.kind ∧ K0 q.root.kind = M7 x.kind := hty
  obtain ⟨ip1, -⟩ := a5x full p hp tp (fun y hy => hn y (by simp [Tr.flat, hy]))
  obtain ⟨iq1, iq2⟩ := a5x full q hq tq (fun y hy => hn y (by simp [Tr.flat, hy]))
  rw [Tr.txt, Tr.ky]
  show _ ∧ (K0 x.kind = false → _)
  have key : ∀ c : List UInt8 → Prop, o7 (q.txt full).1 (q.ky full) c → o7 ((y9 (m9 full (d4 p.root) (if d4 x = 4 then 5 else d4 x)) (p.txt full)).1 ++ [32] ++ O0 x ++ [32] ++ (y9 (m9 full (d4 q.root) (d4 x + 1)) (q.txt full)).1)
    (a1S (m9 full (d4 p.root) (if d4 x = 4 then 5 else d4 x)) (p.ky full) ++ J9 x :: a1S (m9 full (d4 q.root) (d4 x + 1)) (q.ky full)) c := fun c hc => by
   have h1' := a0M (a5i (want := m9 full (d4 p.root) (if d4 x = 4 then 5 else d4 x)) (d := (p.txt full).2) ip1 ip1)
   have h2 := a0M (aW5 h1 hx)
   have h3 := a5i (want := m9 full (d4 q.root) (d4 x + 1)) (d := (q.txt full).2) iq1 hc
   exact ((h1'.app h2 (fun _ _ => trivial)).app h3 (fun _ _ => trivial)).cast (by simp) (by simp)
  refine ⟨key _ iq1, fun h => key _ (iq2 ?_)⟩
  rw [ty]
  rcases a71 h1 with ⟨hk, -⟩ | ⟨hk, -⟩ | ⟨hk, -⟩ | ⟨hk, -⟩
  ·rw [hk] at h; cases h
  ·rw [hk] at h; cases h
  ·rw [hk] at h; cases h
  ·rw [hk]; rfl
theorem b00 (full : Bool) {T : Tr} (hg : T.Good) (ht : T.Typed) (hn : ∀ x ∈ T.flat, a4p x) (hd : (T.txt full).2 ≤ 200) (hl : (T.txt full).1.length ≤ 65536) : ∃ ns, a1Q (T.txt full).1 = .ok ns ∧ ns.map (·.1.g) = T.flat := by
 obtain ⟨A, h1, h2⟩ := (a5x full T hg ht hn).1 0 [] [⟨0, 0 + (T.txt full).1.length, [], 0⟩] (.inl rfl) rfl
 rw [List.append_nil] at h1
 obtain ⟨ns, h3, h4⟩ := b0h full hg hd (e := ⟨0, 0 + (T.txt full).1.length, [], 0⟩) rfl h2
 refine ⟨ns, ?_, h4⟩
 unfold a1Q a03
 rw [if_neg (by omega), h1, D9, h3]
theorem aQ1 (xs : List UInt8) (h : xs.length = 4) : (S8 xs).length ≤ 84 := by
 have := a2v 46 (xs.map fun x => dec x.toNat) 20 (fun l hl => by
  obtain ⟨y, -, rfl⟩ := List.mem_map.1 hl
  exact U3 _)
 rw [List.length_map, h] at this
 exact this
theorem ai2 (x : Ng) : (I7 x).length ≤ 84 := by
 unfold I7
 split
 ·have := aQ3 (d8 (m3 x)) (a3s 8 _ (a0F x))
  omega
 ·exact aQ1 _ (by rw [List.length_take, a0F]; rfl)
theorem aB7 {x : Ng} (ha : arG x.kind = some 0) : (m4 x).length + 1 ≤ 21 * J1 x := by
 have h1 := U3 x.n
 have h2 := U3 x.m
 have h3 := U3 x.bits.toNat
 have h4 := ai2 x
 have h5 := ac1 x.side
 have h6 := a3i x.of
 rcases Z1 ha with ⟨e, -⟩ | ⟨e, -⟩ | ⟨-, hk⟩
 ·cases e
 ·cases e
 ·clear ha
  unfold m4 J1
  repeat' split
  all_goals
   try simp only [List.length_append, List.length_cons, List.length_nil]
   omega
theorem a7u (a b : List Ng) : O6 (a ++ b) = O6 a + O6 b := by unfold O6; simp
theorem a7v (x : Ng) : O6 [x] = J1 x := by unfold O6; simp
theorem ag5 {x : Ng} {a : Nat} (h : arG x.kind = some a) : 1 ≤ J1 x := by
 have hk := Z1 h
 clear h
 unfold J1
 repeat' split
 all_goals omega
theorem a5A (full : Bool) : ∀ {T : Tr}, T.Wf → (T.txt full).1.length + 1 ≤ 21 * O6 T.flat
 | .leaf x, hw => by
  show (m4 x).length + 1 ≤ 21 * O6 [x]
  rw [a7v]
  exact aB7 hw
 | .one x p, hw => by
  have h1 := a5A full hw.2
  have hf : O6 (Tr.one x p).flat = O6 p.flat + J1 x := by show O6 (p.flat ++ [x]) = _; rw [a7u, a7v]
  have hn := a3i x.of
  have hs := ac5 x.size
  have hp1 := ag5 hw.1
  rw [hf, Tr.txt]
  split
  ·rename_i hk
   have : J1 x = 24 := by unfold J1; rw [if_neg (by omega), if_neg (by omega), if_pos hk]
   simp only [List.length_append, List.length_cons, List.length_nil]
   omega
  ·have hp := a3u (m9 full (d4 p.root) (d4 x)) (p.txt full)
   have hq : ((if x.kind = 9 then [110, 111, 116, 32] else [45]) : List UInt8).length ≤ 4 := by split <;> decide
   simp only [List.length_append]
   omega
 | .two x p q, hw => by
  have h1 := a5A full hw.2.1
  have h2 := a5A full hw.2.2
  have hf : O6 (Tr.two x p q).flat = O6 p.flat + O6 q.flat + J1 x := by show O6 (p.flat ++ q.flat ++ [x]) = _; rw [a7u, a7u, a7v]
  have hp1 := ag5 hw.1
  have hs := ac4 x
  have hp := a3u (m9 full (d4 p.root) (if d4 x = 4 then 5 else d4 x)) (p.txt full)
  have hq := a3u (m9 full (d4 q.root) (d4 x + 1)) (q.txt full)
  rw [hf, Tr.txt]
  simp only [List.length_append, List.length_cons, List.length_nil]
  omega

open Go.ChangeShapes Go.WideShapes Go.ChangeAt Go.RowKit
theorem own : ownKnob Tryz.prog.godebug = none := by kernel_rfl
theorem aA4 : laidOutB Tryz.prog = true := by kernel_rfl

open Go.ChangeShapes Go.WideShapes Go.ChangeAt Go.RowKit
theorem ao0 : Tryz.prog.bytesOf 43 = 72 := by kernel_rfl
theorem a8j : Tryz.prog.cellsOf 43 = 24 := by kernel_rfl
theorem ao7 : Tryz.prog.cellsOf 3 = 1 := by kernel_rfl
theorem ao8 : Tryz.prog.cellsOf 40 = 1 := by kernel_rfl
theorem ao6 : Tryz.prog.cellsOf 5 = 1 := by kernel_rfl
theorem a8i : Tryz.prog.cellsOf 41 = 16 := by kernel_rfl
def a5W : Value → UInt8
 | .int _ a => UInt8.ofNat a.toNat
 | _ => 0
def ay1 : Value → Int
 | .int _ a => a
 | _ => 0
def ivl (cs : List Value) (i : Nat) : Int := ay1 (cs.getD i undef)
def a26 (cs : List Value) : Ng := ⟨ivl cs 0, ivl cs 1, (ivl cs 2).toNat, (ivl cs 3).toNat, ivl cs 4, ivl cs 5, ivl cs 6, ((cs.drop 7).take 16).map a5W, ivl cs 23⟩
def Ng.ok (x : Ng) : Prop := x.n ≤ 4294967295 ∧ x.m ≤ 4294967295 ∧ x.addr.length = 16
theorem aj2 {H : Type} {enc : TypeId × Value → H} {W : World} {base : Nat} {spare : Nat → Bool} {held : Bool} {fuel : Nat} {cs : List Value} {x : DataW H × List MemPlace}
  (h : DataW.trod enc Tryz.prog W base spare held fuel 41 cs = some x) : cs.length = 16 ∧ ∀ i (hi : i < cs.length), cs[i] = .int .u8 ((a5W cs[i]).toNat : Int) := by
 obtain ⟨ys, m, _, rfl, hl, hlen, hf⟩ := DataW.trod_array Tryz.underlying41 h
 rw [a8i] at hl
 refine ⟨hl, fun i hi => ?_⟩
 have f := hf i (by omega)
 rw [ao6, Nat.mul_one, List.getElem?_eq_getElem (by omega), List.drop_eq_getElem_cons hi, List.take_succ_cons, List.take_zero] at f
 obtain ⟨k, e, _, w⟩ := DataW.trod_int Tryz.underlying5 f
 simp only [List.cons.injEq, and_true] at e
 have b := bounds_u8 w
 rw [e]
 have z : ((UInt8.ofNat k.toNat).toNat : Int) = k := by simp; omega
 simp only [a5W, z]
theorem a3j {H : Type} {enc : TypeId × Value → H} {W : World} {base : Nat} {spare : Nat → Bool} {held : Bool} {fuel : Nat} {cs : List Value} {x : DataW H × List MemPlace} (o : Nat) (ho : o < cs.length)
  (h : DataW.trod enc Tryz.prog W base spare held fuel 3 ((cs.drop o).take 1) = some x) : cs[o] = .int .i64 (ivl cs o) := by
 rw [List.drop_eq_getElem_cons ho, List.take_succ_cons, List.take_zero] at h
 obtain ⟨k, e, _, _⟩ := DataW.trod_int Tryz.underlying3 h
 simp only [List.cons.injEq, and_true] at e
 unfold ivl
 rw [List.getD_eq_getElem?_getD, List.getElem?_eq_getElem ho, e]
 rfl
theorem a9C {H : Type} {enc : TypeId × Value → H} {W : World} {base : Nat} {spare : Nat → Bool} {held : Bool} {fuel : Nat} {cs : List Value} {x : DataW H × List MemPlace} (o : Nat) (ho : o < cs.length)
  (h : DataW.trod enc Tryz.prog W base spare held fuel 40 ((cs.drop o).take 1) = some x) : cs[o] = .int .u32 ((ivl cs o).toNat : Int) ∧ (ivl cs o).toNat ≤ 4294967295 := by
 rw [List.drop_eq_getElem_cons ho, List.take_succ_cons, List.take_zero] at h
 obtain ⟨k, e, _, w⟩ := DataW.trod_int Tryz.underlying40 h
 simp only [List.cons.injEq, and_true] at e
 have b := bounds_u32 w
 have hi : ivl cs o = k := by
  unfold ivl
  rw [List.getD_eq_getElem?_getD, List.getElem?_eq_getElem ho, e]
  rfl
 rw [hi]
 refine ⟨?_, by omega⟩
 rw [e]
 congr 1
 omega
theorem a9v {H : Type} {enc : TypeId × Value → H} {W : World} {base : Nat} {spare : Nat → Bool} {held : Bool} {fuel : Nat} {cs : List Value} {x : DataW H × List MemPlace} (h : DataW.trod enc Tryz.prog W base spare held fuel 43 cs = some x) : cs = (a26 cs).cells ∧ (a26 cs).ok := by
 obtain ⟨ys, n, _, rfl, hl, hlen, hf⟩ := DataW.trod_struct Tryz.underlying43 h
 rw [a8j] at hl
 have hy9 : ys.length = 9 := hlen
 have hy : ∀ i, i < 9 → ∃ y, ys[i]? = some y := fun i hi => ⟨ys[i], List.getElem?_eq_getElem (by omega)⟩
 have f0 : DataW.trod enc Tryz.prog W base spare held n 3 ((cs.drop 0).take (Tryz.prog.cellsOf 3)) = ys[0]? := hf 0 _ rfl
 have f1 : DataW.trod enc Tryz.prog W base spare held n 3 ((cs.drop 1).take (Tryz.prog.cellsOf 3)) = ys[1]? := hf 1 _ rfl
 have f2 : DataW.trod enc Tryz.prog W base spare held n 40 ((cs.drop 2).take (Tryz.prog.cellsOf 40)) = ys[2]? := hf 2 _ rfl
 have f3 : DataW.trod enc Tryz.prog W base spare held n 40 ((cs.drop 3).take (Tryz.prog.cellsOf 40)) = ys[3]? := hf 3 _ rfl
 have f4 : DataW.trod enc Tryz.prog W base spare held n 3 ((cs.drop 4).take (Tryz.prog.cellsOf 3)) = ys[4]? := hf 4 _ rfl
 have f5 : DataW.trod enc Tryz.prog W base spare held n 3 ((cs.drop 5).take (Tryz.prog.cellsOf 3)) = ys[5]? := hf 5 _ rfl
 have f6 : DataW.trod enc Tryz.prog W base spare held n 3 ((cs.drop 6).take (Tryz.prog.cellsOf 3)) = ys[6]? := hf 6 _ rfl
 have f7 : DataW.trod enc Tryz.prog W base spare held n 41 ((cs.drop 7).take (Tryz.prog.cellsOf 41)) = ys[7]? := hf 7 _ rfl
 have f8 : DataW.trod enc Tryz.prog W base spare held n 3 ((cs.drop 23).take (Tryz.prog.cellsOf 3)) = ys[8]? := hf 8 _ rfl
 rw [ao7] at f0 f1 f4 f5 f6 f8
 rw [ao8] at f2 f3
 rw [a8i] at f7
 obtain ⟨y0, h0⟩ := hy 0 (by omega)
 obtain ⟨y1, h1⟩ := hy 1 (by omega)
 obtain ⟨y2, h2⟩ := hy 2 (by omega)
 obtain ⟨y3, h3⟩ := hy 3 (by omega)
 obtain ⟨y4, h4⟩ := hy 4 (by omega)
 obtain ⟨y5, h5⟩ := hy 5 (by omega)
 obtain ⟨y6, h6⟩ := hy 6 (by omega)
 obtain ⟨y7, h7⟩ := hy 7 (by omega)
 obtain ⟨y8, h8⟩ := hy 8 (by omega)
 have e0 := a3j 0 (by omega) (f0.trans h0)
 have e1 := a3j 1 (by omega) (f1.trans h1)
 have e2 := a9C 2 (by omega) (f2.trans h2)
 have e3 := a9C 3 (by omega) (f3.trans h3)
 have e4 := a3j 4 (by omega) (f4.trans h4)
 have e5 := a3j 5 (by omega) (f5.trans h5)
 have e6 := a3j 6 (by omega) (f6.trans h6)
 have e8 := a3j 23 (by omega) (f8.trans h8)
 obtain ⟨l7, e7⟩ := aj2 (f7.trans h7)
 have a7 : ∀ i (hi : i < 16), cs[7 + i]'(by omega) = adg (a26 cs) i := fun i hi => by
  have := e7 i (by omega)
  rw [List.getElem_take, List.getElem_drop] at this
  rw [this]
  unfold adg a26
  simp only
  rw [List.getD_eq_getElem?_getD, List.getElem?_map, List.getElem?_eq_getElem (by omega), List.getElem_take, List.getElem_drop]
  rfl
 refine ⟨?_, e2.2, e3.2, by simp [a26, hl]⟩
 apply List.ext_getElem
 ·rw [hl]; rfl
 ·intro i hi1 hi2
  have hi : i < 24 := by omega
  have : i = 0 ∨ i = 1 ∨ i = 2 ∨ i = 3 ∨ i = 4 ∨ i = 5 ∨ i = 6 ∨ i = 7 ∨ i = 8 ∨ i = 9 ∨ i = 10 ∨ i = 11 ∨ i = 12 ∨ i = 13 ∨ i = 14 ∨ i = 15 ∨ i = 16 ∨ i = 17 ∨ i = 18 ∨ i = 19 ∨ i = 20 ∨ i = 21 ∨ i = 22 ∨ i = 23 := by omega
  rcases this with rfl | rfl | rfl | rfl | rfl | rfl | rfl | rfl | rfl | rfl | rfl | rfl | rfl | rfl | rfl | rfl | rfl | rfl | rfl | rfl | rfl | rfl | rfl | rfl
  ·exact e0
  ·exact e1
  ·exact e2.1
  ·exact e3.1
  ·exact e4
  ·exact e5
  ·exact e6
  ·exact a7 0 (by omega)
  ·exact a7 1 (by omega)
  ·exact a7 2 (by omega)
  ·exact a7 3 (by omega)
  ·exact a7 4 (by omega)
  ·exact a7 5 (by omega)
  ·exact a7 6 (by omega)
  ·exact a7 7 (by omega)
  ·exact a7 8 (by omega)
  ·exact a7 9 (by omega)
  ·exact a7 10 (by omega)
  ·exact a7 11 (by omega)
  ·exact a7 12 (by omega)
  ·exact a7 13 (by omega)
  ·exact a7 14 (by omega)
  ·exact a7 15 (by omega)
  ·exact e8
theorem aK5 {H : Type} {enc : TypeId × Value → H} {W : World} {d : DataW H} {ps : List MemPlace} {a : Option Addr} {len cap : Nat}
  (h : DataW.Trod enc Tryz.prog W 0 (fun _ => true) true 22 (.slice a len cap) d ps) :
  ∃ xs : List Ng, len = xs.length ∧ CV W a (q9 xs) ∧ (a = none → cap = 0) ∧ (xs.length ≤ cap ∧ cap ≤ maxLen) ∧ (∀ x ∈ xs, x.ok) ∧ ((d = .nil ∧ xs = []) ∨ ∃ elems spare, d = .slice elems spare ∧ xs.length ≤ elems.length + spare.length) := by
 obtain ⟨fuel, hf⟩ := h
 rcases Go.Deep.open_slice Tryz.underlying22 hf with ⟨hcs, hx⟩ | ⟨x, l, c, m, n, D, Pl, hcs, _, hl, hm, hmm, hx, hcell⟩
 ·simp [Value.cells] at hcs
  obtain ⟨rfl, rfl, rfl⟩ := hcs
  simp only [Prod.mk.injEq] at hx
  exact ⟨[], rfl, ⟨fun _ => rfl, fun ad had => (by cases had)⟩, fun _ => rfl, ⟨Nat.le_refl _, Nat.zero_le _⟩, (fun x hx => by cases hx), .inl ⟨hx.1, rfl⟩⟩
 ·simp [Value.cells] at hcs
  obtain ⟨rfl, rfl, rfl⟩ := hcs
  simp only [Prod.mk.injEq] at hx
  simp only [if_true] at hmm
  have hmm' : m = cap := hmm
  rw [a8j] at hcell
  have hlen : ((List.range len).map fun i => a26 ((W.cells? 0 (x.add (i * 24)) 24).getD [])).length = len := by simp
  refine ⟨(List.range len).map fun i => a26 ((W.cells? 0 (x.add (i * 24)) 24).getD []), hlen.symm, ⟨fun h => (by cases h), fun ad had q hq => ?_⟩, fun h => (by cases h), ⟨by rw [hlen]; exact hl, hm⟩, fun y hy => ?_, .inr ⟨_, _, hx.1, ?_⟩⟩
  ·obtain rfl := Option.some.inj had
   have hq4 : q < len * 24 := by rw [a6j, hlen] at hq; exact hq
   obtain ⟨cs', hcs', htr⟩ := hcell (q / 24) (by omega)
   obtain ⟨_, hl4, hget⟩ := World.cells?_some hcs'
   have hk := (a9v htr).1
   have hj : q % 24 < 24 := Nat.mod_lt _ (by decide)
   have e1 : (x.add (q / 24 * 24)).add (q % 24) = x.add q := by
    rw [Addr.add_add]
    congr 1
    omega
   have e2 := hget (q % 24) hj
   rw [e1] at e2
   rw [e2]
   have e3 := a8F ((List.range len).map fun i => a26 ((W.cells? 0 (x.add (i * 24)) 24).getD [])) (q / 24) (q % 24) (by rw [hlen]; omega) hj
   rw [show q / 24 * 24 + q % 24 = q by omega, List.getElem?_eq_getElem hq] at e3
   rw [e3]
   simp only [List.getElem_map, List.getElem_range, hcs', Option.getD_some]
   rw [← hk]
  ·obtain ⟨i, hi, rfl⟩ := List.mem_map.1 hy
   rw [List.mem_range] at hi
   obtain ⟨cs', hcs', htr⟩ := hcell i (by omega)
   rw [hcs', Option.getD_some]
   exact (a9v htr).2
  ·rw [hlen]
   simp
theorem b0P {row least : Int} (h : m9 false row least = true) : m9 true row least = true := by
 unfold m9 at *
 simp at h ⊢
 exact .inr h
theorem a6U {row least : Int} {r r' : List UInt8 × Nat} (h : r.2 ≤ r'.2) : (y9 (m9 false row least) r).2 ≤ (y9 (m9 true row least) r').2 := by
 cases hw : m9 false row least with
 | true =>
  rw [b0P hw]
  show r.2 + 1 ≤ r'.2 + 1
  omega
 | false =>
  show r.2 ≤ _
  unfold y9
  split
  ·show r.2 ≤ r'.2 + 1
   omega
  ·exact h
theorem a4E : ∀ T : Tr, (T.txt false).2 ≤ (T.txt true).2
 | .leaf x => Nat.le_refl _
 | .one x p => by
  have hp := a4E p
  rw [Tr.txt, Tr.txt]
  split
  ·show _ + 1 ≤ _ + 1
   omega
  ·have := a6U (row := d4 p.root) (least := d4 x) hp
   show (y9 _ _).2 + 1 ≤ (y9 _ _).2 + 1
   omega
 | .two x p q => by
  have hp := a6U (row := d4 p.root) (least := if d4 x = 4 then 5 else d4 x) (a4E p)
  have hq := a6U (row := d4 q.root) (least := d4 x + 1) (a4E q)
  rw [Tr.txt, Tr.txt]
  show max _ _ ≤ max _ _
  omega
theorem a8x {t : List Ng} (h : (L8 t).2 = 0) (hao : ∀ x ∈ t, x.ok) {T : Tr} (hT : T.Wf) (hf : T.flat = t) : T.Good ∧ T.Typed ∧ (∀ x ∈ T.flat, a4p x) ∧ ∀ full, (T.txt full).1.length ≤ 65536 := by
 obtain ⟨q, hq, -, hw⟩ := a4H.1 h
 obtain ⟨h1, -⟩ := a8y h hT hf
 rw [hf]
 refine ⟨⟨hT, fun x hx => ?_⟩, h1, fun x hx => ⟨(hao x hx).1, (hao x hx).2.1⟩, fun full => ?_⟩
 ·rw [hf] at hx
  have := a7p t [] _ 0 hq x hx
  exact ⟨this.1, this.2.1, (hao x hx).2.2⟩
 ·have := a5A full hT
  rw [hf] at this
  omega
theorem as9 {t : List Ng} (h : (L8 t).2 = 0) (hao : ∀ x ∈ t, x.ok) {T : Tr} (hT : T.Wf) (hf : T.flat = t) {full : Bool} (hd : (T.txt full).2 ≤ 200) : ∃ ns, a1Q (T.txt full).1 = .ok ns ∧ ns.map (·.1.g) = t := by
 obtain ⟨g1, g2, g3, g4⟩ := a8x h hao hT hf
 obtain ⟨ns, h1, h2⟩ := b00 full g1 g2 g3 hd (g4 full)
 exact ⟨ns, h1, h2.trans hf⟩
theorem a2g (s : ByteArray) (k : Nat) (hk : k < s.size) : (sl s)[k]? = some s[k] := by
 have := a0v s k hk
 have h2 : ((sl s).drop k)[0]? = some s[k] := by rw [this]; rfl
 simpa using h2
def tkA (q p : Nat) (t : List UInt8) (n : Nat) : Array Value := #[.int .i64 (q : Int), .int .i64 (p : Int), str t, .int .u32 (n : Int)]
theorem M2 : (Tryz.prog.info? 99).map (·.size) = some 4 := by kernel_rfl
def a2R (p : Nat) (x : Except Int (Nat × List UInt8 × Nat)) : Array Value := match x with
 | .ok (q, t, n) => tkA q p t n
 | .error _ => tkA 0 0 [] 0
def a2S (x : Except Int (Nat × List UInt8 × Nat)) : Int := match x with
 | .ok _ => 0
 | .error e => e
def Tk.cells (x : Tk) : List Value := [.int .i64 (x.kind : Int), .int .i64 (x.pos : Int), str x.text, .int .u32 (x.num : Int)]
def a0o (xs : List Tk) : List Value := xs.flatMap Tk.cells
theorem a8I (x : Tk) (xs : List Tk) : a0o (x :: xs) = x.cells ++ a0o xs := rfl
theorem a8H (xs ys : List Tk) : a0o (xs ++ ys) = a0o xs ++ a0o ys := by simp only [a0o, List.flatMap_append]
theorem au3 (xs : List Tk) : (a0o xs).length = xs.length * 4 := by
 induction xs with
 | nil => rfl
 | cons x xs ih => rw [a8I, List.length_append, ih, List.length_cons]; simp [Tk.cells]; omega
theorem au2 (xs : List Tk) (i j : Nat) (hi : i < xs.length) (hj : j < 4) : (a0o xs)[i * 4 + j]? = (xs[i].cells)[j]? := by
 induction xs generalizing i with
 | nil => simp at hi
 | cons x xs ih =>
  rw [a8I]
  have hl : x.cells.length = 4 := rfl
  cases i with
  | zero => rw [List.getElem?_append_left (by omega)]; simp
  | succ i =>
   rw [List.getElem?_append_right (by omega), hl, show (i + 1) * 4 + j - 4 = i * 4 + j by omega, ih i (by simpa using hi)]
   simp
theorem CV.toks {w : World} {ao : Option Addr} {xs : List Tk} (h : CV w ao (a0o xs)) {k : Nat} (hk : k < xs.length) :
  ∃ b off, ao = some ⟨b, off, none⟩ ∧ ∀ i (hi : i < xs.length), w.cell? ⟨b, off + i * 4, none⟩ = some (.int .i64 (xs[i].kind : Int)) ∧ w.cell? ⟨b, off + i * 4 + 1, none⟩ = some (.int .i64 (xs[i].pos : Int)) ∧
   w.cell? ⟨b, off + i * 4 + 2, none⟩ = some (str xs[i].text) ∧ w.cell? ⟨b, off + i * 4 + 3, none⟩ = some (.int .u32 (xs[i].num : Int)) := by
 have hl := au3 xs
 obtain ⟨b, off, hao, hc⟩ := h.addr (k := k * 4) (by omega)
 refine ⟨b, off, hao, fun i hi => ?_⟩
 have key : ∀ j (hj : j < 4), w.cell? ⟨b, off + i * 4 + j, none⟩ = (xs[i].cells)[j]? := fun j hj => by
  rw [← au2 xs i j hi hj, Nat.add_assoc, hc (i * 4 + j) (by omega), List.getElem?_eq_getElem (by omega)]
 exact ⟨key 0 (by omega), key 1 (by omega), key 2 (by omega), key 3 (by omega)⟩
theorem ax8 : (Tryz.prog.info? 99).map (fun i => (i.zero, i.size, i.bytes)) = some (some (.agg #[.int .i64 0, .int .i64 0, .string .empty, .int .u32 0]), 4, 40) := by kernel_rfl
abbrev a01 (w : World) (base : Nat) (v : Value) (xs : List Tk) : Prop := w.ownsRow base 99 4 v xs.length (a0o xs)
def a5O (w : World) (row : Option Nat) (g g' n n' : Nat) (wr : World) : Prop := P0 wr 99 g n ∧ P0 wr 99 g' n' ∧ w.grownBy wr row
theorem a5O.set {w wr : World} {row : Option Nat} {g g' n n' : Nat} (h : a5O w row g g' n n' wr) {p : Addr} (hp : row = some p.block ∨ w.heap.size ≤ p.block) (u : Value) : a5O w row g g' n n' (wr.setCell p u) :=
 ⟨h.1.setCell _ _, h.2.1.setCell _ _, T2 h.2.2 _ _ hp⟩
def a9e (x : Except (Nat × Int) (List Tk)) : List Tk := match x with
 | .ok ts => ts
 | .error _ => []
def a6B (x : Except (Nat × Int) (List Tk)) : Nat := match x with
 | .ok _ => 0
 | .error e => e.1
def a6z (x : Except (Nat × Int) (List Tk)) : Int := match x with
 | .ok _ => 0
 | .error e => e.2
def a2r (us : List Tk) (x : Except (Nat × Int) (List Tk)) : Except (Nat × Int) (List Tk) := match x with
 | .ok ts => .ok (us ++ ts)
 | .error e => .error e
theorem af2 {s : List UInt8} {e : Int} (h : k8 s = .error e) : (e != 0) = true := by
 unfold k8 at h
 split at h
 ·cases h
 ·split at h
  ·split at h
   ·cases h
   ·split at h
    ·cases h; rfl
    ·cases h
  ·split at h
   ·cases h
   ·split at h
    ·cases h; rfl
    ·cases h
def x0 (n : Nat) : Nat :=
 if n = 32 ∨ n = 9 ∨ n = 10 ∨ n = 13 then 1 else if 48 ≤ n ∧ n ≤ 57 then 2 else if 97 ≤ n ∧ n ≤ 102 then 3 else if 103 ≤ n ∧ n ≤ 122 then 4 else if n = 58 then 5 else if n = 46 then 6 else 0
theorem a3U (n : Nat) (w : World) :
  Calls Tryz.prog 83 #[.int .u8 (n : Int)] w fun e w' => e = .returned (.int .i64 (x0 n : Int)) ∧ w = w' := by
 have e1 : ∀ k : Nat, ((n : Int) == (k : Int)) = decide (n = k) := fun k => by
  by_cases h : n = k
  ·subst h; simp
  ·rw [beq_eq_false_iff_ne.2 (by omega), decide_eq_false h]
 have d32 := e1 32
 have d9 := e1 9
 have d10 := e1 10
 have d13 := e1 13
 have d58 := e1 58
 have d46 := e1 46
 clear e1
 unfold x0
 by_cases hb : n = 32 ∨ n = 9 ∨ n = 10 ∨ n = 13
 ·rw [if_pos hb]
  rcases hb with rfl | rfl | rfl | rfl <;>
  ·go_enter Tryz.func83, Tryz.ntmps83
   go_wp2
   go_ret
   exact ⟨rfl, rfl⟩
 rw [if_neg hb]
 have b32 : ((n : Int) == 32) = false := by rw [beq_eq_false_iff_ne]; omega
 have b9 : ((n : Int) == 9) = false := by rw [beq_eq_false_iff_ne]; omega
 have b10 : ((n : Int) == 10) = false := by rw [beq_eq_false_iff_ne]; omega
 have b13 : ((n : Int) == 13) = false := by rw [beq_eq_false_iff_ne]; omega
 clear d32 d9 d10 d13 d58 d46 hb
 by_cases hd : 48 ≤ n ∧ n ≤ 57
 ·rw [if_pos hd]
  have i1 : (48 : Int) ≤ (n : Int) := by omega
  have i2 : (n : Int) ≤ 57 := by omega
  clear hd
  go_enter Tryz.func83, Tryz.ntmps83
  go_wp2
  go_ret
  exact ⟨rfl, rfl⟩
 rw [if_neg hd]
 by_cases hx : 97 ≤ n ∧ n ≤ 102
 ·rw [if_pos hx]
  have i1 : (48 : Int) ≤ (n : Int) := by omega
  have i2 : ¬ (n : Int) ≤ 57 := by omega
  have i3 : (97 : Int) ≤ (n : Int) := by omega
  have i4 : (n : Int) ≤ 102 := by omega
  clear hd hx
  go_enter Tryz.func83, Tryz.ntmps83
  go_wp2
  go_ret
  exact ⟨rfl, rfl⟩
 rw [if_neg hx]
 by_cases hl : 103 ≤ n ∧ n ≤ 122
 ·rw [if_pos hl]
  have i1 : (48 : Int) ≤ (n : Int) := by omega
  have i2 : ¬ (n : Int) ≤ 57 := by omega
  have i3 : (97 : Int) ≤ (n : Int) := by omega
  have i4 : ¬ (n : Int) ≤ 102 := by omega
  have i5 : (103 : Int) ≤ (n : Int) := by omega
  have i6 : (n : Int) ≤ 122 := by omega
  clear hd hx hl
  go_enter Tryz.func83, Tryz.ntmps83
  go_wp2
  go_ret
  exact ⟨rfl, rfl⟩
 rw [if_neg hl]
 by_cases h58 : n = 58
 ·rw [if_pos h58]
  subst h58
  clear b32 b9 b10 b13 hd hx hl
  go_enter Tryz.func83, Tryz.ntmps83
  go_wp2
  go_ret
  exact ⟨rfl, rfl⟩
 rw [if_neg h58]
 have b58 : ((n : Int) == 58) = false := by rw [beq_eq_false_iff_ne]; omega
 by_cases h46 : n = 46
 ·rw [if_pos h46]
  subst h46
  clear b32 b9 b10 b13 hd hx hl b58
  go_enter Tryz.func83, Tryz.ntmps83
  go_wp2
  go_ret
  exact ⟨rfl, rfl⟩
 rw [if_neg h46]
 have b46 : ((n : Int) == 46) = false := by rw [beq_eq_false_iff_ne]; omega
 have c1 : (decide ((48 : Int) ≤ (n : Int)) && decide ((n : Int) ≤ 57)) = false := by simp; omega
 have c2 : (decide ((97 : Int) ≤ (n : Int)) && decide ((n : Int) ≤ 102)) = false := by simp; omega
 have c3 : (decide ((103 : Int) ≤ (n : Int)) && decide ((n : Int) ≤ 122)) = false := by simp; omega
 have hs : n < 48 ∨ (57 < n ∧ n < 97) ∨ 122 < n := by omega
 clear h58 h46 hl c1 c2 c3
 rcases hs with h | ⟨h, h'⟩ | h
 ·have i1 : ¬ (48 : Int) ≤ (n : Int) := by omega
  have i3 : ¬ (97 : Int) ≤ (n : Int) := by omega
  have i5 : ¬ (103 : Int) ≤ (n : Int) := by omega
  clear hd hx h
  go_enter Tryz.func83, Tryz.ntmps83
  go_wp2
  go_ret
  exact ⟨rfl, rfl⟩
 ·have i1 : (48 : Int) ≤ (n : Int) := by omega
  have i2 : ¬ (n : Int) ≤ 57 := by omega
  have i3 : ¬ (97 : Int) ≤ (n : Int) := by omega
  have i5 : ¬ (103 : Int) ≤ (n : Int) := by omega
  clear hd hx h h'
  go_enter Tryz.func83, Tryz.ntmps83
  go_wp2
  go_ret
  exact ⟨rfl, rfl⟩
 ·have i1 : (48 : Int) ≤ (n : Int) := by omega
  have i2 : ¬ (n : Int) ≤ 57 := by omega
  have i3 : (97 : Int) ≤ (n : Int) := by omega
  have i4 : ¬ (n : Int) ≤ 102 := by omega
  have i5 : (103 : Int) ≤ (n : Int) := by omega
  have i6 : ¬ (n : Int) ≤ 122 := by omega
  clear hd hx h
  go_enter Tryz.func83, Tryz.ntmps83
  go_wp2
  go_ret
  exact ⟨rfl, rfl⟩
theorem aA2 (c : UInt8) : ((x0 c.toNat : Int) == 1) = I8 c := by
 have h : ∀ k : Fin 256, ((x0 k.1 : Int) == 1) = I8 (UInt8.ofNat k.1) := by decide +kernel
 have := h ⟨c.toNat, c.toNat_lt⟩
 simpa using this
theorem a1L (c : UInt8) : x0 c.toNat ≤ 6 ∧ k6 c = decide (x0 c.toNat = 2 ∨ x0 c.toNat = 3 ∨ x0 c.toNat = 5) ∧ t8 c = decide (x0 c.toNat = 2 ∨ x0 c.toNat = 6) ∧ l0 c = decide (x0 c.toNat = 2 ∨ x0 c.toNat = 3 ∨ x0 c.toNat = 4) ∧
  decide (c = 58) = decide (x0 c.toNat = 5) ∧ decide (c = 46) = decide (x0 c.toNat = 6) ∧ D8 c = decide (x0 c.toNat = 2) ∧ a0j c = decide (x0 c.toNat = 3 ∨ x0 c.toNat = 4) := by
 have h : ∀ k : Fin 256, x0 k.1 ≤ 6 ∧ k6 (UInt8.ofNat k.1) = decide (x0 k.1 = 2 ∨ x0 k.1 = 3 ∨ x0 k.1 = 5) ∧ t8 (UInt8.ofNat k.1) = decide (x0 k.1 = 2 ∨ x0 k.1 = 6) ∧ l0 (UInt8.ofNat k.1) = decide (x0 k.1 = 2 ∨ x0 k.1 = 3 ∨ x0 k.1 = 4) ∧
  decide (UInt8.ofNat k.1 = 58) = decide (x0 k.1 = 5) ∧ decide (UInt8.ofNat k.1 = 46) = decide (x0 k.1 = 6) ∧ D8 (UInt8.ofNat k.1) = decide (x0 k.1 = 2) ∧ a0j (UInt8.ofNat k.1) = decide (x0 k.1 = 3 ∨ x0 k.1 = 4) := by decide +kernel
 have := h ⟨c.toNat, c.toNat_lt⟩
 simpa only [UInt8.ofNat_toNat] using this
theorem ay9 (c : UInt8) (w : World) :
  Calls Tryz.prog 82 #[.int .u8 (c.toNat : Int)] w fun e w' => e = .returned (.bool (I8 c)) ∧ w = w' := by
 rw [← aA2 c]
 have C := a3U c.toNat w
 generalize x0 c.toNat = q at *
 go_enter Tryz.func82, Tryz.ntmps82
 go_wp2_with fail
 refine C.mono ?_
 rintro e w1 ⟨rfl, rfl⟩
 clear C
 go_wp2
 go_ret
 exact ⟨rfl, rfl⟩
theorem az2 (c : UInt8) (w : World) :
  Calls Tryz.prog 149 #[.int .u8 (c.toNat : Int)] w fun e w' => e = .returned (.bool (l0 c)) ∧ w = w' := by
 have hk := (a1L c).1
 rw [(a1L c).2.2.2.1]
 have C := a3U c.toNat w
 generalize x0 c.toNat = q at *
 have hq : q = 0 ∨ q = 1 ∨ q = 2 ∨ q = 3 ∨ q = 4 ∨ q = 5 ∨ q = 6 := by omega
 clear hk
 rcases hq with rfl | rfl | rfl | rfl | rfl | rfl | rfl <;>
 ·go_enter Tryz.func149, Tryz.ntmps149
  go_wp2_with fail
  refine C.mono ?_
  rintro e w1 ⟨rfl, rfl⟩
  clear C
  go_wp2
  go_ret
  exact ⟨rfl, rfl⟩

end Go.Proofs.YtklipelnjgpnjaaGreatDoor
