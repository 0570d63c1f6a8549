import Derived.Test.YtklipelnjgpnjaaGreatDoorLotS34
import Derived.Test.YtklipelnjgpnjaaGreatDoorLotS19
import Derived.Test.YtklipelnjgpnjaaGreatDoorLotS20
import Derived.Test.YtklipelnjgpnjaaGreatDoorLotS16
import Derived.Test.YtklipelnjgpnjaaGreatDoorLotS8
import Derived.Test.YtklipelnjgpnjaaGreatDoorLotS1
import Derived.Test.YtklipelnjgpnjaaGreatDoorRows
import Derived.ProofKit
import Derived.OpenShut
import Derived.ShutString
import Derived.ChangeOld
import Derived.SizedLaws
import Derived.JoinedCond
import Derived.Test.YtklipelnjgpnjaaGreatDoorLotS7
import Derived.Deep.Slices
import Derived.Test.YtklipelnjgpnjaaGreatDoorLotS33
import Derived.Test.YtklipelnjgpnjaaGreatDoorLotS13
import Derived.Test.YtklipelnjgpnjaaGreatDoorLotS6
set_option maxHeartbeats 64000000
set_option maxRecDepth 100000
namespace Go.Proofs.YtklipelnjgpnjaaGreatDoor
open Go.RowKit
theorem b0j (full : Bool) {T : Tr} (hg : T.Good) (hd : (T.txt full).2 ≤ 200) {A : List Tk} {e : Tk} (he : e.kind = 0) (hA : A.map Tk.ky = T.ky full) : ∃ ns, a1p (A ++ [e]) = .ok ns ∧ ns.map (·.1.g) = T.flat := by
 obtain ⟨F, ns, h1, h2⟩ := (b0k full T hg).1 1 0 A [e] (Nat.le_refl _) a5g (by omega) hA (a7d (aZ3 he []))
 refine ⟨ns, ?_, h2⟩
 have h3 := a3Z (Nat.le_max_left F (a0m 1 (A ++ [e]))) h1
 have h4 := aa3 (Nat.le_max_right F (a0m 1 (A ++ [e]))) (a5i _ 1 0 _ (by decide) (Nat.le_refl _))
 unfold a1p
 rw [← h4, h3, D0]
 exact if_pos he
theorem o5.cast {s s' : List UInt8} {ks ks' : List Ky} {c : List UInt8 → Prop} (h : o5 s ks c) (hs : s = s') (hk : ks = ks') : o5 s' ks' c := by
 subst hs hk
 exact h
theorem a0N {s : List UInt8} {ks : List Ky} (h : o5 s ks a0E) : o5 (s ++ [32]) ks (fun _ => True) :=
 (h.app aB6 (fun r _ => a2p (b := 32) (by decide) r)).cast rfl (List.append_nil _)
theorem a4V {k : Int} (h : 1 ≤ k ∧ k ≤ 13) : j9 (j6 k) = .ok (2, j6 k, 0) := by
 have : k = 1 ∨ k = 2 ∨ k = 3 ∨ k = 4 ∨ k = 5 ∨ k = 6 ∨ k = 7 ∨ k = 8 ∨ k = 9 ∨ k = 10 ∨ k = 11 ∨ k = 12 ∨ k = 13 := by omega
 rcases this with rfl | rfl | rfl | rfl | rfl | rfl | rfl | rfl | rfl | rfl | rfl | rfl | rfl <;> rfl
theorem a74 {k : Int} : o5 (a0u k) (a1s k) (fun _ => True) := by
 unfold a0u a1s
 by_cases h1 : k = 1
 ·rw [if_pos h1, if_pos h1]
  exact a0N (a05 (x := J8) rfl)
 ·rw [if_neg h1, if_neg h1]
  by_cases h2 : k = 2
  ·rw [if_pos h2, if_pos h2]
   exact a0N (a05 (x := I6) rfl)
  ·rw [if_neg h2, if_neg h2]
   exact a9f
theorem a7G {x : Ng} (hl : x.addr.length = 16) : o5 (I2 x) [kA x] a0E := by
 have hid := a4q hl
 refine a2y (k := kA x) fun r hr => ?_
 have h : j9 (kA x).2.1 = .ok ((kA x).1, (kA x).2.1, (kA x).2.2) := by
  unfold kA I2
  by_cases h3 : x.of = 3
  ·rw [if_pos h3, if_pos h3]
   exact ad1 (a3q 8 _ (by rw [hid, hl]))
  ·rw [if_neg h3, if_neg h3]
   exact ae5 (by rw [List.length_take, hid, hl]; rfl)
 exact (a5t (Z2 h).1 hr).trans h
def a4m (x : Ng) : Prop := x.n ≤ 4294967295 ∧ x.m ≤ 4294967295
theorem aB0 {x : Ng} (ha : arG x.kind = some 0) (hg : a2V x) (hn : a4m x) : o5 (l9 x) (H0 x) a0E ∧ (J5 x.kind = false → o5 (l9 x) (H0 x) a1a) := by
 obtain ⟨hf, hr, hl⟩ := hg
 obtain ⟨-, -, hm⟩ := a21 hf hl
 obtain ⟨g1, g2, g3, g4, g5, g6, -⟩ := a2q hf hr
 have hk : x.kind = 1 ∨ x.kind = 2 ∨ x.kind = 10 ∨ x.kind = 11 ∨ x.kind = 12 ∨ x.kind = 13 ∨ x.kind = 14 ∨ x.kind = 15 ∨ x.kind = 16 := by
  rcases Z8 ha with ⟨h1, -⟩ | ⟨h1, -⟩ | ⟨-, h1⟩
  ·cases h1
  ·cases h1
  ·exact h1
 have ht : 6 ≤ x.kind → J5 x.kind = false → o5 (l9 x) (H0 x) a1a := fun h h2 => by
  unfold J5 at h2
  exact absurd h (of_decide_eq_false h2)
 have hall : ∀ {s ks}, o5 s ks (fun _ => True) → o5 s ks a0E := fun h => h.mono fun _ _ => trivial
 rcases hk with hk | hk | hk | hk | hk | hk | hk | hk | hk
 ·have h : o5 (l9 x) (H0 x) a1a := by
   rw [show l9 x = dec x.n by unfold l9; rw [hk]; rfl, show H0 x = [kN x.n] by unfold H0; rw [hk]; rfl]
   exact a25 hn.1
  exact ⟨h.mono fun _ => a1f, fun _ => h⟩
 ·have h : o5 (l9 x) (H0 x) a1a := by
   rw [show l9 x = a1F by unfold l9; rw [hk]; rfl, show H0 x = [kW a1F] by unfold H0; rw [hk]; rfl]
   exact aC1 (x := a1F) rfl (by decide)
  exact ⟨h.mono fun _ => a1f, fun _ => h⟩
 ·refine ⟨?_, ht (by omega)⟩
  rw [show l9 x = if x.side = 1 then a1E else a1G by unfold l9; rw [hk]; rfl, show H0 x = [kW (if x.side = 1 then a1E else a1G)] by unfold H0; rw [hk]; rfl]
  split
  ·exact a05 (x := a1E) rfl
  ·exact a05 (x := a1G) rfl
 ·have hof := a0s (show inG x.of 2 13 = true by unfold m4 at hm; rw [hk] at hm; exact hm)
  refine ⟨?_, ht (by omega)⟩
  rw [show l9 x = j6 x.of by unfold l9; rw [hk]; rfl, show H0 x = [kW (j6 x.of)] by unfold H0; rw [hk]; rfl]
  exact a05 (a4V ⟨by omega, by omega⟩)
 ·refine ⟨?_, ht (by omega)⟩
  rw [show l9 x = [112, 114, 111, 116, 111, 32] ++ dec x.n by unfold l9; rw [hk]; rfl, show H0 x = [kW D5, kN x.n] by unfold H0; rw [hk]; rfl]
  exact ((a0N (a05 (x := D5) rfl)).app (a25 hn.1) (fun _ _ => trivial)).mono fun _ => a1f
 ·have hof := a0s (show inG x.of 2 3 = true by unfold m4 at hm; rw [hk] at hm; exact hm)
  refine ⟨?_, ht (by omega)⟩
  rw [show l9 x = j6 x.of ++ [32, 112, 114, 111, 116, 111, 32] ++ dec x.n by unfold l9; rw [hk]; rfl, show H0 x = [kW (j6 x.of), kW D5, kN x.n] by unfold H0; rw [hk]; rfl]
  refine o5.cast (((a0N (a05 (a4V ⟨by omega, by omega⟩))).app (a0N (a05 (x := D5) rfl)) (fun _ _ => trivial)).app ((a25 hn.1).mono fun _ => a1f) (fun _ _ => trivial)) ?_ rfl
  simp [D5]
 ·refine ⟨?_, ht (by omega)⟩
  rw [show l9 x = a0u x.side ++ [104, 111, 115, 116, 32] ++ I2 x by unfold l9; rw [hk]; rfl, show H0 x = a1s x.side ++ [kW U0, kA x] by unfold H0; rw [hk]; rfl]
  refine o5.cast (((a74 (k := x.side)).app (a0N (a05 (x := U0) rfl)) (fun _ _ => trivial)).app (a7G hl) (fun _ _ => trivial)) ?_ (by simp)
  simp [U0]
 ·refine ⟨?_, ht (by omega)⟩
  rw [show l9 x = a0u x.side ++ [110, 101, 116, 32] ++ I2 x ++ [47] ++ dec x.bits.toNat by unfold l9; rw [hk]; rfl, show H0 x = a1s x.side ++ [kW V6, kA x, kS [47], kN x.bits.toNat] by unfold H0; rw [hk]; rfl]
  refine o5.cast (((((a74 (k := x.side)).app (a0N (a05 (x := V6) rfl)) (fun _ _ => trivial)).app (a7G hl) (fun _ _ => trivial)).app aC0 (fun r _ => a2p (b := 47) (by decide) r)).app ((a25 (n := x.bits.toNat) (by omega)).mono fun _ => a1f) (fun _ _ => trivial)) ?_ (by simp)
  simp [V6]
 ·have hof : x.of = 0 ∨ x.of = 4 ∨ x.of = 5 := by
   unfold m4 at hm
   rw [hk] at hm
   have h1 := (Bool.and_eq_true_iff.1 (show ((x.of == 0 || inG x.of 4 5) && inG x.side 0 2) = true from hm)).1
   rcases Bool.or_eq_true_iff.1 h1 with h2 | h2
   ·exact .inl (by simpa using h2)
   ·have := a0s h2
    omega
  refine ⟨?_, ht (by omega)⟩
  rw [show l9 x = (if x.of = 0 then [] else j6 x.of ++ [32]) ++ a0u x.side ++ (if x.n = x.m then [112, 111, 114, 116, 32] ++ dec x.n else [112, 111, 114, 116, 114, 97, 110, 103, 101, 32] ++ dec x.n ++ [45] ++ dec x.m) by unfold l9; rw [hk]; rfl, show H0 x = (if x.of = 0 then [] else [kW (j6 x.of)]) ++ a1s x.side ++ (if x.n = x.m then [kW J0, kN x.n] else [kW H9, kN x.n, kS [45], kN x.m]) by unfold H0; rw [hk]; rfl]
  have hN : o5 (if x.of = 0 then [] else j6 x.of ++ [32]) (if x.of = 0 then [] else [kW (j6 x.of)]) (fun _ => True) := by
   by_cases h0 : x.of = 0
   ·rw [if_pos h0, if_pos h0]; exact a9f
   ·rw [if_neg h0, if_neg h0]; exact a0N (a05 (a4V ⟨by omega, by omega⟩))
  refine (hN.app a74 (fun _ _ => trivial)).app ?_ (fun _ _ => trivial)
  by_cases hnm : x.n = x.m
  ·rw [if_pos hnm, if_pos hnm]
   exact ((a0N (a05 (x := J0) rfl)).app (a25 hn.1) (fun _ _ => trivial)).mono fun _ => a1f
  ·rw [if_neg hnm, if_neg hnm]
   exact ((((a0N (a05 (x := H9) rfl)).app (a25 hn.1) (fun _ _ => trivial)).app a9e (fun r _ => a1f (a2p (b := 45) (by decide) r))).app (a25 hn.2) (fun _ _ => trivial)).mono fun _ => a1f
theorem aW5 {x : Ng} (h : arG x.kind = some 2) (hg : a2V x) : o5 (N0 x) [J4 x] a0E := by
 obtain ⟨hf, hr, hl⟩ := hg
 obtain ⟨-, -, hm⟩ := a21 hf hl
 have hk : x.kind = 4 ∨ x.kind = 6 ∨ x.kind = 7 ∨ x.kind = 8 := by
  rcases Z8 h with ⟨h1, -⟩ | ⟨-, h1⟩ | ⟨h1, -⟩
  ·cases h1
  ·exact h1
  ·cases h1
 rcases hk with hk | hk | hk | hk
 ·have ho := a0s (show inG x.op 1 10 = true by unfold m4 at hm; rw [hk] at hm; exact hm)
  rw [show N0 x = a07 x.op by unfold N0; rw [hk]; rfl, show J4 x = kS (a07 x.op) by unfold J4; rw [hk]; rfl]
  refine a9h ?_
  have : x.op = 1 ∨ x.op = 2 ∨ x.op = 3 ∨ x.op = 4 ∨ x.op = 5 ∨ x.op = 6 ∨ x.op = 7 ∨ x.op = 8 ∨ x.op = 9 ∨ x.op = 10 := by omega
  rcases this with e | e | e | e | e | e | e | e | e | e <;> rw [e] <;> rfl
 ·have ho := a0s (show inG x.op 1 6 = true by unfold m4 at hm; rw [hk] at hm; exact hm)
  rw [show N0 x = a0S x.op by unfold N0; rw [hk]; rfl, show J4 x = kS (a0S x.op) by unfold J4; rw [hk]; rfl]
  refine a9h ?_
  have : x.op = 1 ∨ x.op = 2 ∨ x.op = 3 ∨ x.op = 4 ∨ x.op = 5 ∨ x.op = 6 := by omega
  rcases this with e | e | e | e | e | e <;> rw [e] <;> rfl
 ·rw [show N0 x = V0 by unfold N0; rw [hk]; rfl, show J4 x = kW V0 by unfold J4; rw [hk]; rfl]
  exact a05 (x := V0) rfl
 ·rw [show N0 x = wOr by unfold N0; rw [hk]; rfl, show J4 x = kW wOr by unfold J4; rw [hk]; rfl]
  exact a05 (x := wOr) rfl
theorem a5d {want : Bool} {s : List UInt8} {d : Nat} {ks : List Ky} {c : List UInt8 → Prop} (h : o5 s ks a0E) (h2 : o5 s ks c) : o5 (y6 want (s, d)).1 (a1V want ks) c := by
 cases want with
 | false => exact h2
 | true =>
  exact (((aB8.app h (fun _ _ => trivial)).app aB9 (fun r _ => a2p (b := 41) (by decide) r)).mono (fun _ _ => trivial)).cast rfl (by simp [a1V])
theorem b07 {d : UInt8} (hd : d ∈ [50, 51, 52]) (r : List UInt8) : j9 ([58] ++ d :: 93 :: r) = .ok (5, [58], 0) := by
 simp only [List.mem_cons, List.not_mem_nil, or_false] at hd
 rcases hd with rfl | rfl | rfl <;> rfl
theorem aX1 {n : Int} (h : 1 ≤ n ∧ n ≤ 4) : o5 (Z1 n ++ [93]) (a5o n ++ [kS [93]]) (fun _ => True) := by
 have key : ∀ (m : Nat) (d : UInt8), dec m = [d] → d ∈ [50, 51, 52] → m ≤ 4294967295 → o5 ([58] ++ dec m ++ [93]) [kS [58], kN m, kS [93]] (fun _ => True) := fun m d hm hd hl => by
  have h1 : o5 [58] [kS [58]] (fun r => ∃ r', r = d :: 93 :: r') := a2y (k := kS [58]) fun r hr => by
   obtain ⟨r', rfl⟩ := hr
   exact b07 hd r'
  have h2 := (a25 hl).app a9g (fun r _ => a1f (a2p (b := 93) (by decide) r))
  exact (h1.app h2 (fun r _ => ⟨r, by rw [hm]; rfl⟩)).cast (by simp) rfl
 have : n = 1 ∨ n = 2 ∨ n = 3 ∨ n = 4 := by omega
 rcases this with rfl | rfl | rfl | rfl
 ·exact a9g
 ·exact key 2 50 (by decide) (by decide) (by decide)
 ·exact key 3 51 (by decide) (by decide) (by decide)
 ·exact key 4 52 (by decide) (by decide) (by decide)
theorem aX0 {n : Int} (h : 1 ≤ n ∧ n ≤ 4) (r : List UInt8) : a1a (Z1 n ++ [93] ++ r) := by
 have : n = 1 ∨ n = 2 ∨ n = 3 ∨ n = 4 := by omega
 rcases this with rfl | rfl | rfl | rfl
 ·exact a1f (a2p (b := 93) (by decide) r)
 ·exact .inr ⟨50, r, rfl, by decide⟩
 ·exact .inr ⟨51, r, rfl, by decide⟩
 ·exact .inr ⟨52, r, rfl, by decide⟩
theorem a5v (full : Bool) : ∀ T : Tr, T.Good → T.Typed → (∀ x ∈ T.flat, a4m x) → o5 (T.txt full).1 (T.ky full) a0E ∧ (J5 T.root.kind = false → o5 (T.txt full).1 (T.ky full) a1a)
 | .leaf x, hg, _, hn => aB0 hg.1 (hg.2 x (by simp [Tr.flat])) (hn x (by simp [Tr.flat]))
 | .one x p, hg, hty, hn => by
  obtain ⟨h1, hx, hp⟩ := hg.one
  obtain ⟨tp, tx⟩ : p.Typed ∧ J5 p.root.kind = M5 x.kind := hty
  obtain ⟨ih1, ih2⟩ := a5v full p hp tp (fun y hy => hn y (by simp [Tr.flat, hy]))
  obtain ⟨hf, hr, hl⟩ := hx
  obtain ⟨-, -, hm⟩ := a21 hf hl
  rw [Tr.txt, Tr.ky]
  show _ ∧ (J5 x.kind = false → _)
  rcases a45 h1 with ⟨hk, -⟩ | ⟨hk, -⟩ | ⟨hk, -⟩
  ·have hof := a0s (show inG x.of 1 12 = true by unfold m4 at hm; rw [hk] at hm; exact hm)
   have hsz := (a2q hf hr).2.2.2.2.2.2.2.1 hk
   have hpC := ih2 (by rw [tx, hk]; rfl)
   rw [if_pos hk, if_pos hk]
   have h : o5 (j6 x.of ++ [91] ++ (p.txt full).1 ++ Z1 x.size ++ [93]) (kW (j6 x.of) :: kS [91] :: (p.ky full ++ (a5o x.size ++ [kS [93]]))) (fun _ => True) := by
    have h1 := (a05 (a4V (k := x.of) ⟨by omega, by omega⟩)).app aB7 (fun r _ => a2p (b := 91) (by decide) r)
    have h2 := h1.app hpC (fun _ _ => trivial)
    exact (h2.app (aX1 hsz) (fun r _ => aX0 hsz r)).cast (by simp) (by simp)
   exact ⟨h.mono fun _ _ => trivial, fun _ => h.mono fun _ _ => trivial⟩
  ·rw [if_neg (by omega), if_neg (by omega), if_neg (by omega), if_neg (by omega)]
   have hpC := ih2 (by rw [tx, hk]; rfl)
   have h : o5 ([45] ++ (y6 (m8 full (d4 p.root) (d4 x)) (p.txt full)).1) (kS [45] :: a1V (m8 full (d4 p.root) (d4 x)) (p.ky full)) a1a := a9e.app (a5d ih1 hpC) (fun _ _ => trivial)
   exact ⟨h.mono fun _ => a1f, fun _ => h⟩
  ·rw [if_neg (by omega), if_pos hk, if_neg (by omega), if_pos hk]
   exact ⟨(a0N (a05 (x := U1) rfl)).app (a5d ih1 ih1) (fun _ _ => trivial), fun h => by rw [hk] at h; cases h⟩
 | .two x p q, hg, hty, hn => by
  obtain ⟨h1, hx, hp, hq⟩ := hg.two
  obtain ⟨tp, tq, tx, ty⟩ : p.Typed ∧ q.Typed ∧ J5 p.root.kind = M5 x.kind ∧ J5 q.root.kind = M5 x.kind := hty
  obtain ⟨ip1, -⟩ := a5v full p hp tp (fun y hy => hn y (by simp [Tr.flat, hy]))
  obtain ⟨iq1, iq2⟩ := a5v full q hq tq (fun y hy => hn y (by simp [Tr.flat, hy]))
  rw [Tr.txt, Tr.ky]
  show _ ∧ (J5 x.kind = false → _)
  have key : ∀ c : List UInt8 → Prop, o5 (q.txt full).1 (q.ky full) c → o5 ((y6 (m8 full (d4 p.root) (if d4 x = 4 then 5 else d4 x)) (p.txt full)).1 ++ [32] ++ N0 x ++ [32] ++ (y6 (m8 full (d4 q.root) (d4 x + 1)) (q.txt full)).1)
    (a1V (m8 full (d4 p.root) (if d4 x = 4 then 5 else d4 x)) (p.ky full) ++ J4 x :: a1V (m8 full (d4 q.root) (d4 x + 1)) (q.ky full)) c := fun c hc => by
   have h1' := a0N (a5d (want := m8 full (d4 p.root) (if d4 x = 4 then 5 else d4 x)) (d := (p.txt full).2) ip1 ip1)
   have h2 := a0N (aW5 h1 hx)
   have h3 := a5d (want := m8 full (d4 q.root) (d4 x + 1)) (d := (q.txt full).2) iq1 hc
   exact ((h1'.app h2 (fun _ _ => trivial)).app h3 (fun _ _ => trivial)).cast (by simp) (by simp)
  refine ⟨key _ iq1, fun h => key _ (iq2 ?_)⟩
  rw [ty]
  rcases a6W h1 with ⟨hk, -⟩ | ⟨hk, -⟩ | ⟨hk, -⟩ | ⟨hk, -⟩
  ·rw [hk] at h; cases h
  ·rw [hk] at h; cases h
  ·rw [hk] at h; cases h
  ·rw [hk]; rfl
theorem b03 (full : Bool) {T : Tr} (hg : T.Good) (ht : T.Typed) (hn : ∀ x ∈ T.flat, a4m x) (hd : (T.txt full).2 ≤ 200) (hl : (T.txt full).1.length ≤ 65536) : ∃ ns, a08 (T.txt full).1 = .ok ns ∧ ns.map (·.1.g) = T.flat := by
 obtain ⟨A, h1, h2⟩ := (a5v full T hg ht hn).1 0 [] [⟨0, 0 + (T.txt full).1.length, [], 0⟩] (.inl rfl) rfl
 rw [List.append_nil] at h1
 obtain ⟨ns, h3, h4⟩ := b0j full hg hd (e := ⟨0, 0 + (T.txt full).1.length, [], 0⟩) rfl h2
 refine ⟨ns, ?_, h4⟩
 unfold a08 U8
 rw [if_neg (by omega), h1, D0, h3]
theorem aP8 (xs : List UInt8) (h : xs.length = 4) : (S8 xs).length ≤ 84 := by
 have := a2w 46 (xs.map fun x => dec x.toNat) 20 (fun l hl => by
  obtain ⟨y, -, rfl⟩ := List.mem_map.1 hl
  exact U3 _)
 rw [List.length_map, h] at this
 exact this
theorem ah4 (x : Ng) : (I2 x).length ≤ 84 := by
 unfold I2
 split
 ·have := aQ0 (d8 (l0 x)) (a3q 8 _ (a0F x))
  omega
 ·exact aP8 _ (by rw [List.length_take, a0F]; rfl)
theorem aB2 {x : Ng} (ha : arG x.kind = some 0) : (l9 x).length + 1 ≤ 21 * I7 x := by
 have h1 := U3 x.n
 have h2 := U3 x.m
 have h3 := U3 x.bits.toNat
 have h4 := ah4 x
 have h5 := ab6 x.side
 have h6 := a3g x.of
 rcases Z8 ha with ⟨e, -⟩ | ⟨e, -⟩ | ⟨-, hk⟩
 ·cases e
 ·cases e
 ·clear ha
  unfold l9 I7
  repeat' split
  all_goals
   try simp only [List.length_append, List.length_cons, List.length_nil]
   omega
theorem a7p (a b : List Ng) : N6 (a ++ b) = N6 a + N6 b := by unfold N6; simp
theorem a7q (x : Ng) : N6 [x] = I7 x := by unfold N6; simp
theorem af6 {x : Ng} {a : Nat} (h : arG x.kind = some a) : 1 ≤ I7 x := by
 have hk := Z8 h
 clear h
 unfold I7
 repeat' split
 all_goals omega
theorem a5x (full : Bool) : ∀ {T : Tr}, T.Wf → (T.txt full).1.length + 1 ≤ 21 * N6 T.flat
 | .leaf x, hw => by
  show (l9 x).length + 1 ≤ 21 * N6 [x]
  rw [a7q]
  exact aB2 hw
 | .one x p, hw => by
  have h1 := a5x full hw.2
  have hf : N6 (Tr.one x p).flat = N6 p.flat + I7 x := by show N6 (p.flat ++ [x]) = _; rw [a7p, a7q]
  have hn := a3g x.of
  have hs := ac2 x.size
  have hp1 := af6 hw.1
  rw [hf, Tr.txt]
  split
  ·rename_i hk
   have : I7 x = 24 := by unfold I7; rw [if_neg (by omega), if_neg (by omega), if_pos hk]
   simp only [List.length_append, List.length_cons, List.length_nil]
   omega
  ·have hp := a3s (m8 full (d4 p.root) (d4 x)) (p.txt full)
   have hq : ((if x.kind = 9 then [110, 111, 116, 32] else [45]) : List UInt8).length ≤ 4 := by split <;> decide
   simp only [List.length_append]
   omega
 | .two x p q, hw => by
  have h1 := a5x full hw.2.1
  have h2 := a5x full hw.2.2
  have hf : N6 (Tr.two x p q).flat = N6 p.flat + N6 q.flat + I7 x := by show N6 (p.flat ++ q.flat ++ [x]) = _; rw [a7p, a7p, a7q]
  have hp1 := af6 hw.1
  have hs := ac1 x
  have hp := a3s (m8 full (d4 p.root) (if d4 x = 4 then 5 else d4 x)) (p.txt full)
  have hq := a3s (m8 full (d4 q.root) (d4 x + 1)) (q.txt full)
  rw [hf, Tr.txt]
  simp only [List.length_append, List.length_cons, List.length_nil]
  omega

open Go.ChangeShapes Go.WideShapes Go.ChangeAt Go.RowKit
theorem own : ownKnob Tryz.prog.godebug = none := by kernel_rfl

open Go.ChangeShapes Go.WideShapes Go.ChangeAt Go.RowKit
def Ng.ok (x : Ng) : Prop := x.n ≤ 4294967295 ∧ x.m ≤ 4294967295 ∧ x.addr.length = 16
theorem a8s {t : List Ng} (h : (M8 t).2 = 0) (hao : ∀ x ∈ t, x.ok) {T : Tr} (hT : T.Wf) (hf : T.flat = t) : T.Good ∧ T.Typed ∧ (∀ x ∈ T.flat, a4m x) ∧ ∀ full, (T.txt full).1.length ≤ 65536 := by
 obtain ⟨q, hq, -, hw⟩ := a6a.1 h
 obtain ⟨h1, -⟩ := a8t h hT hf
 rw [hf]
 refine ⟨⟨hT, fun x hx => ?_⟩, h1, fun x hx => ⟨(hao x hx).1, (hao x hx).2.1⟩, fun full => ?_⟩
 ·rw [hf] at hx
  have := a7k t [] _ 0 hq x hx
  exact ⟨this.1, this.2.1, (hao x hx).2.2⟩
 ·have := a5x full hT
  rw [hf] at this
  omega
theorem as0 {t : List Ng} (h : (M8 t).2 = 0) (hao : ∀ x ∈ t, x.ok) {T : Tr} (hT : T.Wf) (hf : T.flat = t) {full : Bool} (hd : (T.txt full).2 ≤ 200) : ∃ ns, a08 (T.txt full).1 = .ok ns ∧ ns.map (·.1.g) = t := by
 obtain ⟨g1, g2, g3, g4⟩ := a8s h hao hT hf
 obtain ⟨ns, h1, h2⟩ := b03 full g1 g2 g3 hd (g4 full)
 exact ⟨ns, h1, h2.trans hf⟩
def lpN (ts : List Tk) : Nat := ts.countP fun t => (t.kind == 5 || t.kind == 2) && t.text == [40]
def a6Q (want : Bool) (n : Nat) : Nat := if want = true then n + 1 else n
def Tr.br : Tr → Nat
 | .leaf _ => 0
 | .one x p => if x.kind = 3 then p.br else a6Q (m8 false (d4 p.root) (d4 x)) p.br
 | .two x p q => a6Q (m8 false (d4 p.root) (if d4 x = 4 then 5 else d4 x)) p.br + a6Q (m8 false (d4 q.root) (d4 x + 1)) q.br
def Rd (k : Int) (ts : List Tk) (ns : List (Nd × Nat)) (r : List Tk) : Prop := ∃ T : Tr, T.Wf ∧ T.flat = ns.map (·.1.g) ∧ lpN r + (T.br + if d4 T.root < k then 1 else 0) ≤ lpN ts
theorem Rd.mono {k k' : Int} {ts ts' r r' : List Tk} {ns : List (Nd × Nat)} (h : Rd k ts ns r) (hk : k' ≤ k) (ht : lpN ts ≤ lpN ts') (hr : lpN r' ≤ lpN r) : Rd k' ts' ns r' := by
 obtain ⟨T, h1, h2, h3⟩ := h
 refine ⟨T, h1, h2, ?_⟩
 by_cases hx : d4 T.root < k'
 ·rw [if_pos hx]; rw [if_pos (by omega)] at h3; omega
 ·rw [if_neg hx]; omega
theorem aX6 {k : Nat} {ts r : List Tk} {d : Nd} (h : Z3 k ts = .ok (d, r)) : d.kind = k := by
 unfold Z3 at h
 split at h
 ·split at h
  ·cases h; rfl
  ·unfold E4 at h; cases h
 ·split at h
  ·split at h
   ·cases h; rfl
   ·unfold E4 at h; cases h
  ·unfold E4 at h; cases h
theorem aQ9 {o : Nat} : arG ({ ndK 6 with op := o } : Nd).g.kind = some 2 ∧ d4 ({ ndK 6 with op := o } : Nd).g = 4 := ⟨rfl, rfl⟩
theorem P7 {α : Type} {c : Prop} [Decidable c] {a b : α} {o : Option α} (h : (if c then some a else o) = some b) : a = b ∨ o = some b := by
 by_cases hc : c
 ·rw [if_pos hc] at h; exact .inl (Option.some.inj h)
 ·rw [if_neg hc] at h; exact .inr h
theorem al1 {k : Nat} {x : List UInt8} {nd : Nd} (h : q7 k x = some nd) : arG nd.g.kind = some 2 ∧ d4 nd.g = (k : Int) := by
 unfold q7 at h
 by_cases h1 : k = 1
 ·rw [if_pos h1] at h
  subst h1
  rcases P7 h with rfl | h
  ·exact ⟨rfl, rfl⟩
  ·cases h
 rw [if_neg h1] at h
 by_cases h2 : k = 2
 ·rw [if_pos h2] at h
  subst h2
  rcases P7 h with rfl | h
  ·exact ⟨rfl, rfl⟩
  ·cases h
 rw [if_neg h2] at h
 by_cases h4 : k = 4
 ·rw [if_pos h4] at h
  subst h4
  obtain ⟨o, -, ho⟩ := Option.map_eq_some_iff.1 h
  rw [← ho]
  exact aQ9
 rw [if_neg h4] at h
 by_cases h5 : k = 5
 ·rw [if_pos h5] at h
  subst h5
  rcases P7 h with rfl | h
  ·exact ⟨rfl, rfl⟩
  ·cases h
 rw [if_neg h5] at h
 by_cases h6 : k = 6
 ·rw [if_pos h6] at h
  subst h6
  rcases P7 h with rfl | h
  ·exact ⟨rfl, rfl⟩
  ·cases h
 rw [if_neg h6] at h
 by_cases h7 : k = 7
 ·rw [if_pos h7] at h
  subst h7
  rcases P7 h with rfl | h
  ·exact ⟨rfl, rfl⟩
  ·cases h
 rw [if_neg h7] at h
 by_cases h8 : k = 8
 ·rw [if_pos h8] at h
  subst h8
  rcases P7 h with rfl | h
  ·exact ⟨rfl, rfl⟩
  ·rcases P7 h with rfl | h
   ·exact ⟨rfl, rfl⟩
   ·cases h
 rw [if_neg h8] at h
 by_cases h9 : k = 9
 ·rw [if_pos h9] at h
  subst h9
  rcases P7 h with rfl | h
  ·exact ⟨rfl, rfl⟩
  ·rcases P7 h with rfl | h
   ·exact ⟨rfl, rfl⟩
   ·cases h
 rw [if_neg h9] at h
 by_cases h10 : k = 10
 ·rw [if_pos h10] at h
  subst h10
  rcases P7 h with rfl | h
  ·exact ⟨rfl, rfl⟩
  ·rcases P7 h with rfl | h
   ·exact ⟨rfl, rfl⟩
   ·rcases P7 h with rfl | h
    ·exact ⟨rfl, rfl⟩
    ·cases h
 rw [if_neg h10] at h
 cases h
theorem aJ9 {k : Nat} {ts : List Tk} {nd : Nd} (h : opT k ts = some nd) : arG nd.g.kind = some 2 ∧ d4 nd.g = (k : Int) := by
 unfold opT at h
 by_cases hk : (hdT ts).kind = 5 ∨ (hdT ts).kind = 2
 ·rw [if_pos hk] at h
  exact al1 h
 ·rw [if_neg hk] at h
  cases h
def a6c (gp : Option Nat) (nx ny : Nat) : Bool := match gp with
 | none => nx == 8
 | some _ => decide (nx + ny ≤ 7)
def av8 (s H T : List UInt8) (gp : Option Nat) : Prop := match gp with
 | none => H = s ∧ T = []
 | some k => H = s.take k ∧ T = s.drop (k + 2)
theorem a9L (s H T : List UInt8) (h : av8 s H T (L9 s)) :
  J7 s = (p9 H).bind fun x => (p9 T).bind fun y => if a6c (L9 s) x.length y.length = true then some (f9 (x ++ List.replicate (8 - x.length - y.length) 0 ++ y)) else none := by
 unfold J7
 cases hg : L9 s with
 | none =>
  rw [hg] at h
  obtain ⟨rfl, rfl⟩ := h
  simp only
  have e : p9 [] = some [] := rfl
  cases p9 H with
  | none => rfl
  | some x =>
   rw [e]
   simp only [Option.bind_some, a6c, List.length_nil, List.append_nil, Nat.sub_zero, beq_iff_eq]
   by_cases h8 : x.length = 8
   ·rw [if_pos h8, if_pos h8, h8]; simp
   ·rw [if_neg h8, if_neg h8]
 | some k =>
  rw [hg] at h
  obtain ⟨rfl, rfl⟩ := h
  simp only [a6c, decide_eq_true_eq]
theorem ah6 {α β : Type} {f : α → Option β} {xs : List α} {vs : List β} (h : S9 f xs = some vs) : ∀ v ∈ vs, ∃ x ∈ xs, f x = some v := by
 induction xs generalizing vs with
 | nil => simp [S9] at h; subst h; intro v hv; cases hv
 | cons x r ih =>
  simp only [S9] at h
  cases hx : f x with
  | none => rw [hx] at h; cases h
  | some u =>
   rw [hx] at h
   cases hr : S9 f r with
   | none => rw [hr] at h; cases h
   | some us =>
    rw [hr] at h
    simp only [Option.bind_some, Option.map_some, Option.some.injEq] at h
    subst h
    intro v hv
    rcases List.mem_cons.1 hv with rfl | hv
    ·exact ⟨x, by simp, hx⟩
    ·obtain ⟨y, hy, e⟩ := ih hr v hv
     exact ⟨y, by simp [hy], e⟩
theorem a8P {s : List UInt8} {gs : List Nat} (h : p9 s = some gs) : ∀ g ∈ gs, g < 65536 := by
 unfold p9 at h
 split at h
 ·simp at h; subst h; intro g hg; cases hg
 ·split at h
  ·cases h
  ·intro g hg
   obtain ⟨x, -, e⟩ := ah6 h g hg
   exact a8N e
theorem a6j {s : List UInt8} {gs : List Nat} (h : p9 s = some gs) : gs.length ≤ 8 := by
 unfold p9 at h
 split at h
 ·simp at h; subst h; simp
 ·split at h
  ·cases h
  ·rw [a7J h]; omega
theorem a8b (gs : List Nat) : (f9 gs).length = 2 * gs.length := by
 induction gs with
 | nil => rfl
 | cons g r ih => simp only [f9, List.flatMap_cons, List.length_append, List.length_cons, List.length_nil] at *; omega
theorem a6L {s r : List UInt8} (h : M2 s = some r) : r.length = 4 := by
 unfold M2 at h
 split at h
 ·rename_i h4
  cases ha : S9 (A9 255) (j0 46 s) with
  | none => rw [ha] at h; cases h
  | some ns =>
   rw [ha] at h
   simp only [Option.map_some, Option.some.injEq] at h
   subst h
   rw [List.length_map, a7J ha, h4]
 ·cases h
theorem aL3 (s : List UInt8) : ((M2 s).getD (List.replicate 4 0)).length = 4 := by
 cases h : M2 s with
 | none => rfl
 | some r => exact a6L h
theorem a6M {s r : List UInt8} (h : J7 s = some r) : r.length = 16 := by
 unfold J7 at h
 split at h
 ·cases hx : p9 s with
  | none => rw [hx] at h; cases h
  | some x =>
   rw [hx] at h
   simp only [Option.bind_some] at h
   split at h
   ·simp only [Option.some.injEq] at h
    subst h
    rw [a8b]; omega
   ·cases h
 ·rename_i k _
  cases hx : p9 (s.take k) with
  | none => rw [hx] at h; cases h
  | some x =>
   cases hy : p9 (s.drop (k + 2)) with
   | none => rw [hx, hy] at h; cases h
   | some y =>
    rw [hx, hy] at h
    simp only [Option.bind_some] at h
    split at h
    ·simp only [Option.some.injEq] at h
     subst h
     rw [a8b, List.length_append, List.length_append, List.length_replicate]; omega
    ·cases h
theorem aL7 (s : List UInt8) : ((J7 s).getD (List.replicate 16 0)).length = 16 := by
 cases h : J7 s with
 | none => rfl
 | some r => exact a6M h

end Go.Proofs.YtklipelnjgpnjaaGreatDoor
