import Derived.Test.YtklipelnjgpnjaaGreatDoorLotS35
import Derived.Test.YtklipelnjgpnjaaGreatDoorLotS18
import Derived.Deep.DeepCutAuto
import Derived.Test.YtklipelnjgpnjaaGreatDoorLotS4
import Derived.Test.YtklipelnjgpnjaaGreatDoorLotS6
import Derived.Test.YtklipelnjgpnjaaGreatDoorLotS2
import Derived.Test.YtklipelnjgpnjaaGreatDoorLotS1
set_option maxHeartbeats 64000000
set_option maxRecDepth 100000
namespace Go.Proofs.YtklipelnjgpnjaaGreatDoor
open Go.RowKit
def OkD (d : Nd) : Prop := d.n ≤ 4294967295 ∧ d.m ≤ 4294967295 ∧ d.addr.length = 16
def NmT (ts : List Tk) : Prop := ∀ t ∈ ts, t.num ≤ 4294967295
theorem NmT.suf {ts r : List Tk} (h : NmT ts) (hs : r <:+ ts) : NmT r := fun t ht => h t (hs.subset ht)
theorem NmT.tail {ts : List Tk} (h : NmT ts) : NmT ts.tail := h.suf (List.tail_suffix ts)
theorem NmT.hd {ts : List Tk} (h : NmT ts) : (hdT ts).num ≤ 4294967295 := by
 cases ts with
 | nil => exact Nat.zero_le _
 | cons t r => exact h t (List.mem_cons_self ..)
theorem a6R (row least : Int) (r : List UInt8 × Nat) : (y6 (m8 false row least) r).2 = r.2 + if row < least then 1 else 0 := by
 unfold y6 m8
 by_cases h : row < least <;> simp [h]
theorem ap9 {x : Ng} {p : Tr} (h : x.kind = 3) : ((Tr.one x p).txt false).2 = (p.txt false).2 + 1 := by rw [Tr.txt, if_pos h]
theorem a8j {x : Ng} {p : Tr} (h : x.kind ≠ 3) : ((Tr.one x p).txt false).2 = (p.txt false).2 + (if d4 p.root < d4 x then 1 else 0) + 1 := by
 rw [Tr.txt, if_neg h]
 show (y6 _ _).2 + 1 = _
 rw [a6R]
theorem aq0 {x : Ng} {p q : Tr} : ((Tr.two x p q).txt false).2 = max ((p.txt false).2 + if d4 p.root < (if d4 x = 4 then 5 else d4 x) then 1 else 0) ((q.txt false).2 + if d4 q.root < d4 x + 1 then 1 else 0) := by
 rw [Tr.txt]
 show max (y6 _ _).2 (y6 _ _).2 = _
 rw [a6R, a6R]
def Rg (k : Int) (nest : Nat) (ns : List (Nd × Nat)) (r : List Tk) : Prop :=
 NmT r ∧ (∀ x ∈ ns, OkD x.1) ∧ ∃ T : Tr, T.Wf ∧ T.flat = ns.map (·.1.g) ∧ nest + ((T.txt false).2 + if d4 T.root < k then 1 else 0) ≤ 200
theorem Rg.mono {k k' : Int} {nest : Nat} {r : List Tk} {ns : List (Nd × Nat)} (h : Rg k nest ns r) (hk : k' ≤ k) : Rg k' nest ns r := by
 obtain ⟨hn, ho, T, h1, h2, h3⟩ := h
 refine ⟨hn, ho, T, h1, h2, ?_⟩
 by_cases hx : d4 T.root < k'
 ·rw [if_pos hx]; rw [if_pos (by omega)] at h3; omega
 ·rw [if_neg hx]; omega
theorem a1r {d : Nd} {p nest : Nat} {r : List Tk} (ha : arG d.g.kind = some 0) (ho : OkD d) (hr : NmT r) (hn : nest ≤ 200) : Rg 12 nest [(d, p)] r := by
 refine ⟨hr, fun x hx => by rw [List.mem_singleton.1 hx]; exact ho, .leaf d.g, ha, rfl, ?_⟩
 rw [show d4 (Tr.leaf d.g).root = 12 from aa0 ha]
 have : ((Tr.leaf d.g).txt false).2 = 0 := rfl
 rw [this, if_neg (by decide)]
 omega
theorem a3h {ts r : List Tk} {n : Nat} (h : j7 ts = .ok (n, r)) (hN : NmT ts) : n ≤ 4294967295 ∧ NmT r := by
 unfold j7 at h
 split at h
 ·cases h; exact ⟨hN.hd, hN.tail⟩
 ·unfold E4 at h; cases h
theorem a6z {x : List UInt8} {ts r : List Tk} (h : m9 x ts = .ok r) (hN : NmT ts) : NmT r := hN.suf (a2B h).1
theorem a7A {k : Nat} {ts r : List Tk} {d : Nd} (h : Z3 k ts = .ok (d, r)) (hN : NmT ts) : d.kind = k ∧ OkD d ∧ NmT r := by
 have hr := hN.suf (a5P h).1
 refine ⟨aX6 h, ?_, hr⟩
 unfold Z3 at h
 split at h
 ·split at h
  ·rename_i a ha
   cases h
   refine ⟨Nat.zero_le _, Nat.zero_le _, ?_⟩
   show (a ++ List.replicate 12 0).length = 16
   rw [List.length_append, a6L ha, List.length_replicate]
  ·unfold E4 at h; cases h
 ·split at h
  ·split at h
   ·rename_i a ha
    cases h
    exact ⟨Nat.zero_le _, Nat.zero_le _, a6M ha⟩
   ·unfold E4 at h; cases h
  ·unfold E4 at h; cases h
theorem a6I (k : Nat) : OkD (ndK k) := ⟨Nat.zero_le _, Nat.zero_le _, rfl⟩
theorem aV6 {of at' side nest : Nat} {ts r : List Tk} {ns : List (Nd × Nat)} (h : S2 of at' side ts = .ok (ns, r)) (hN : NmT ts) (hn : nest ≤ 200) : Rg 12 nest ns r := by
 unfold S2 at h
 split at h
 ·obtain ⟨⟨n, r1⟩, h1, h2⟩ := m3 h
  cases h2
  obtain ⟨g1, g2⟩ := a3h h1 hN.tail
  exact a1r rfl ⟨g1, g1, rfl⟩ g2 hn
 ·split at h
  ·obtain ⟨⟨n, r1⟩, h1, h2⟩ := m3 h
   obtain ⟨r2, h3, h4⟩ := m3 h2
   obtain ⟨⟨m, r3⟩, h5, h6⟩ := m3 h4
   cases h6
   obtain ⟨g1, g2⟩ := a3h h1 hN.tail
   obtain ⟨g3, g4⟩ := a3h h5 (a6z h3 g2)
   exact a1r rfl ⟨g1, g3, rfl⟩ g4 hn
  ·split at h
   ·obtain ⟨⟨n, r1⟩, h1, h2⟩ := m3 h
    cases h2
    obtain ⟨g1, g2, g3⟩ := a7A h1 hN.tail
    refine a1r ?_ g2 g3 hn
    show arG (n.kind : Int) = some 0
    rw [g1]
    rfl
   ·split at h
    ·obtain ⟨⟨n, r1⟩, h1, h2⟩ := m3 h
     obtain ⟨r2, h3, h4⟩ := m3 h2
     obtain ⟨⟨m, r3⟩, h5, h6⟩ := m3 h4
     cases h6
     obtain ⟨g1, g2, g3⟩ := a7A h1 hN.tail
     obtain ⟨g4, g5⟩ := a3h h5 (a6z h3 g3)
     refine a1r ?_ g2 g5 hn
     show arG (n.kind : Int) = some 0
     rw [g1]
     rfl
    ·unfold E4 at h; cases h
theorem ab8 {of at' nest : Nat} {ts r : List Tk} {ns : List (Nd × Nat)} (h : a0n of at' ts = .ok (ns, r)) (hN : NmT ts) (hn : nest ≤ 200) : Rg 12 nest ns r :=
 aV6 h (hN.suf (a5l ts)) hn
theorem b18 {nest : Nat} {ts r : List Tk} {ns : List (Nd × Nat)} (h : P8 ts = .ok (ns, r)) (hN : NmT ts) (hn : nest ≤ 200) : Rg 12 nest ns r := by
 unfold P8 at h
 split at h
 ·cases h; exact a1r rfl (a6I 2) hN.tail hn
 ·split at h
  ·cases h; exact a1r rfl ⟨Nat.zero_le _, Nat.zero_le _, rfl⟩ hN.tail hn
  ·split at h
   ·cases h; exact a1r rfl ⟨Nat.zero_le _, Nat.zero_le _, rfl⟩ hN.tail hn
   ·split at h
    ·obtain ⟨⟨n, r1⟩, h1, h2⟩ := m3 h
     cases h2
     obtain ⟨g1, g2⟩ := a3h h1 hN.tail
     exact a1r rfl ⟨g1, Nat.zero_le _, rfl⟩ g2 hn
    ·split at h
     ·exact ab8 h hN hn
     ·unfold E4 at h; cases h
def RgO (k : Int) (rec : Nat → List Tk → Out) : Prop := ∀ nest ts ns r, NmT ts → nest ≤ 200 → rec nest ts = .ok (ns, r) → Rg k nest ns r
theorem aF5 {rec : Nat → List Tk → Out} (hr : RgO 1 rec) {nest of at' : Nat} {ts r : List Tk} {ns : List (Nd × Nat)} (h : M1 rec nest of at' ts = .ok (ns, r)) (hN : NmT ts) (hn : nest ≤ 200) : Rg 12 nest ns r := by
 unfold M1 at h
 split at h
 ·obtain ⟨h200, h⟩ := a16 h
  obtain ⟨⟨n1, r1⟩, h1, h2⟩ := m3 h
  obtain ⟨⟨n2, r2⟩, h3, h4⟩ := m3 h2
  cases h4
  obtain ⟨g1, g2, T, w1, w2, w3⟩ := hr _ _ _ _ hN.tail (by omega) h1
  refine ⟨g1.suf (a78 h3).1, ?_, .one ({ ndK 3 with of := of, size := n2 } : Nd).g T, ⟨rfl, w1⟩, ?_, ?_⟩
  ·intro x hx
   rcases List.mem_append.1 hx with hx | hx
   ·exact g2 x hx
   ·rw [List.mem_singleton.1 hx]; exact ⟨Nat.zero_le _, Nat.zero_le _, rfl⟩
  ·simp [Tr.flat, w2]
  ·have hrow : d4 (Tr.one ({ ndK 3 with of := of, size := n2 } : Nd).g T).root = 12 := rfl
   rw [ap9 rfl, hrow, if_neg (by decide)]
   omega
 ·split at h
  ·unfold E4 at h; cases h
  ·split at h
   ·obtain ⟨⟨n, r1⟩, h1, h2⟩ := m3 h
    cases h2
    obtain ⟨g1, g2⟩ := a3h h1 hN.tail
    exact a1r rfl ⟨g1, Nat.zero_le _, rfl⟩ g2 hn
   ·split at h
    ·exact ab8 h hN hn
    ·cases h
     exact a1r rfl ⟨Nat.zero_le _, Nat.zero_le _, rfl⟩ hN hn
theorem aO0 {rec : Nat → List Tk → Out} (hr : RgO 1 rec) {nest : Nat} {ts r : List Tk} {ns : List (Nd × Nat)} (h : s9 rec nest ts = .ok (ns, r)) (hN : NmT ts) (hn : nest ≤ 200) : Rg 12 nest ns r := by
 unfold s9 at h
 split at h
 ·cases h
  exact a1r rfl ⟨hN.hd, Nat.zero_le _, rfl⟩ hN.tail hn
 ·split at h
  ·obtain ⟨h200, h⟩ := a16 h
   obtain ⟨⟨n1, r1⟩, h1, h2⟩ := m3 h
   obtain ⟨r2, h3, h4⟩ := m3 h2
   cases h4
   obtain ⟨g1, g2, T, w1, w2, w3⟩ := hr _ _ _ _ hN.tail (by omega) h1
   refine ⟨a6z h3 g1, g2, T, w1, w2, ?_⟩
   split <;> omega
  ·split at h
   ·unfold E4 at h; cases h
   ·split at h
    ·exact aF5 hr h hN.tail hn
    ·exact b18 h hN hn
theorem aJ8 {k : Nat} {ts : List Tk} {nd : Nd} (h : opT k ts = some nd) : OkD nd := by
 unfold opT at h
 by_cases hk : (hdT ts).kind = 5 ∨ (hdT ts).kind = 2
 ·rw [if_pos hk] at h
  have key : ∀ d : Nd, d.n = 0 ∧ d.m = 0 ∧ d.addr = List.replicate 16 0 → OkD d := fun d hd => ⟨by rw [hd.1]; exact Nat.zero_le _, by rw [hd.2.1]; exact Nat.zero_le _, by rw [hd.2.2]; rfl⟩
  refine key nd ?_
  unfold q7 at h
  by_cases h1 : k = 1
  ·rw [if_pos h1] at h
   rcases P7 h with rfl | h
   ·exact ⟨rfl, rfl, rfl⟩
   ·cases h
  rw [if_neg h1] at h
  by_cases h2 : k = 2
  ·rw [if_pos h2] at h
   rcases P7 h with rfl | h
   ·exact ⟨rfl, rfl, rfl⟩
   ·cases h
  rw [if_neg h2] at h
  by_cases h4 : k = 4
  ·rw [if_pos h4] at h
   obtain ⟨o, -, ho⟩ := Option.map_eq_some_iff.1 h
   rw [← ho]
   exact ⟨rfl, rfl, rfl⟩
  rw [if_neg h4] at h
  by_cases h5 : k = 5
  ·rw [if_pos h5] at h
   rcases P7 h with rfl | h
   ·exact ⟨rfl, rfl, rfl⟩
   ·cases h
  rw [if_neg h5] at h
  by_cases h6 : k = 6
  ·rw [if_pos h6] at h
   rcases P7 h with rfl | h
   ·exact ⟨rfl, rfl, rfl⟩
   ·cases h
  rw [if_neg h6] at h
  by_cases h7 : k = 7
  ·rw [if_pos h7] at h
   rcases P7 h with rfl | h
   ·exact ⟨rfl, rfl, rfl⟩
   ·cases h
  rw [if_neg h7] at h
  by_cases h8 : k = 8
  ·rw [if_pos h8] at h
   rcases P7 h with rfl | h
   ·exact ⟨rfl, rfl, rfl⟩
   ·rcases P7 h with rfl | h
    ·exact ⟨rfl, rfl, rfl⟩
    ·cases h
  rw [if_neg h8] at h
  by_cases h9 : k = 9
  ·rw [if_pos h9] at h
   rcases P7 h with rfl | h
   ·exact ⟨rfl, rfl, rfl⟩
   ·rcases P7 h with rfl | h
    ·exact ⟨rfl, rfl, rfl⟩
    ·cases h
  rw [if_neg h9] at h
  by_cases h10 : k = 10
  ·rw [if_pos h10] at h
   rcases P7 h with rfl | h
   ·exact ⟨rfl, rfl, rfl⟩
   ·rcases P7 h with rfl | h
    ·exact ⟨rfl, rfl, rfl⟩
    ·rcases P7 h with rfl | h
     ·exact ⟨rfl, rfl, rfl⟩
     ·cases h
  rw [if_neg h10] at h
  cases h
 ·rw [if_neg hk] at h
  cases h
theorem a9n {rec : List Tk → Out} {k nest : Nat} (hr : ∀ ts ns r, NmT ts → rec ts = .ok (ns, r) → Rg ((k : Int) + 1) nest ns r) : ∀ (f : Nat) (ns : List (Nd × Nat)) (ts : List Tk) (ms : List (Nd × Nat)) (r : List Tk),
  Rg (if k = 4 then 5 else (k : Int)) nest ns ts → q9 rec k f ns ts = .ok (ms, r) → Rg k nest ms r
 | 0, ns, ts, ms, r, h0, h => by
  cases h
  exact h0.mono (by split <;> omega)
 | f + 1, ns, ts, ms, r, h0, h => by
  unfold q9 at h
  split at h
  ·cases h
   exact h0.mono (by split <;> omega)
  ·rename_i nd hop
   obtain ⟨⟨n1, r1⟩, h1, h2⟩ := m3 h
   obtain ⟨ha, hrow⟩ := aJ9 hop
   obtain ⟨g1, g2, T, w1, w2, w3⟩ := h0
   obtain ⟨g3, g4, U, u1, u2, u3⟩ := hr _ _ _ g1.tail h1
   have hO : ∀ x ∈ ns ++ n1 ++ [(nd, (hdT ts).pos)], OkD x.1 := fun x hx => by
    rcases List.mem_append.1 hx with hx | hx
    ·rcases List.mem_append.1 hx with hx | hx
     ·exact g2 x hx
     ·exact g4 x hx
    ·rw [List.mem_singleton.1 hx]; exact aJ8 hop
   have hR : ∃ V : Tr, V.Wf ∧ V.flat = (ns ++ n1 ++ [(nd, (hdT ts).pos)]).map (·.1.g) ∧ d4 V.root = (k : Int) ∧ nest + (V.txt false).2 ≤ 200 := by
    refine ⟨.two nd.g T U, ⟨ha, w1, u1⟩, ?_, hrow, ?_⟩
    ·simp [Tr.flat, w2, u2]
    ·rw [aq0, hrow]
     by_cases h4 : k = 4
     ·subst h4
      simp only [if_true] at w3
      simp only [show ((4 : Nat) : Int) = 4 from rfl, if_true] at *
      omega
     ·rw [if_neg h4] at w3
      rw [if_neg (by omega : ¬ (k : Int) = 4)]
      omega
   obtain ⟨V, v1, v2, v3, v4⟩ := hR
   dsimp only at h2
   split at h2
   ·cases h2
    exact ⟨g3, hO, V, v1, v2, by rw [v3, if_neg (by omega)]; omega⟩
   ·rename_i h4
    refine a9n hr f _ _ _ _ ⟨g3, hO, V, v1, v2, ?_⟩ h2
    rw [if_neg h4, v3, if_neg (by omega)]
    omega
theorem a2L : ∀ (f k nest : Nat) (ts : List Tk) (ns : List (Nd × Nat)) (r : List Tk), k ≤ 12 → NmT ts → nest ≤ 200 → d6 f k nest ts = .ok (ns, r) → Rg k nest ns r
 | 0, k, nest, ts, ns, r, _, _, _, h => by cases h
 | f + 1, k, nest, ts, ns, r, hk, hN, hn, h => by
  rw [J9] at h
  unfold L0 at h
  split at h
  ·rename_i h3
   obtain ⟨rfl, -⟩ := h3
   obtain ⟨h200, h⟩ := a16 h
   obtain ⟨⟨n1, r1⟩, h1, h2⟩ := m3 h
   cases h2
   obtain ⟨g1, g2, T, w1, w2, w3⟩ := a2L f 3 _ _ _ _ hk hN.tail (by omega) h1
   refine ⟨g1, ?_, .one (ndK 9).g T, ⟨rfl, w1⟩, by simp [Tr.flat, w2], ?_⟩
   ·intro x hx
    rcases List.mem_append.1 hx with hx | hx
    ·exact g2 x hx
    ·rw [List.mem_singleton.1 hx]; exact a6I 9
   ·have hrow : d4 (Tr.one (ndK 9).g T).root = 3 := rfl
    have hb : ((Tr.one (ndK 9).g T).txt false).2 = (T.txt false).2 + (if d4 T.root < ((3 : Nat) : Int) then 1 else 0) + 1 := a8j (by decide)
    rw [hb, hrow, if_neg (by decide : ¬ (3 : Int) < ((3 : Nat) : Int))]
    omega
  ·split at h
   ·rename_i h3
    obtain ⟨rfl, -⟩ := h3
    obtain ⟨h200, h⟩ := a16 h
    obtain ⟨⟨n1, r1⟩, h1, h2⟩ := m3 h
    cases h2
    obtain ⟨g1, g2, T, w1, w2, w3⟩ := a2L f 11 _ _ _ _ hk hN.tail (by omega) h1
    refine ⟨g1, ?_, .one (ndK 5).g T, ⟨rfl, w1⟩, by simp [Tr.flat, w2], ?_⟩
    ·intro x hx
     rcases List.mem_append.1 hx with hx | hx
     ·exact g2 x hx
     ·rw [List.mem_singleton.1 hx]; exact a6I 5
    ·have hrow : d4 (Tr.one (ndK 5).g T).root = 11 := rfl
     have hb : ((Tr.one (ndK 5).g T).txt false).2 = (T.txt false).2 + (if d4 T.root < ((11 : Nat) : Int) then 1 else 0) + 1 := a8j (by decide)
     rw [hb, hrow, if_neg (by decide : ¬ (11 : Int) < ((11 : Nat) : Int))]
     omega
   ·split at h
    ·exact (a2L f (k + 1) _ _ _ _ (by omega) hN hn h).mono (by omega)
    ·split at h
     ·rename_i h12
      subst h12
      exact aO0 (fun nest ts ns r hN hn h => a2L f 1 nest ts ns r (by decide) hN hn h) h hN hn
     ·obtain ⟨⟨n1, r1⟩, h1, h2⟩ := m3 h
      have h0 := a2L f (k + 1) _ _ _ _ (by omega) hN hn h1
      refine a9n (fun ts ns r hN h => a2L f (k + 1) nest ts ns r (by omega) hN hn h) _ _ _ _ _ ?_ h2
      exact h0.mono (by split <;> omega)
theorem aM3 {s : List UInt8} {ns : List (Nd × Nat)} (h : a08 s = .ok ns) : (∀ x ∈ ns, OkD x.1) ∧ ∃ T : Tr, T.Wf ∧ T.flat = ns.map (·.1.g) ∧ (T.txt false).2 ≤ 200 := by
 obtain ⟨ts, h1, h2⟩ := m3 h
 have hN : NmT ts := by
  unfold U8 at h1
  split at h1
  ·cases h1
  ·obtain ⟨us, hu, hg⟩ := a4P s.length 0 s ts (Nat.le_refl _) h1
   intro t ht
   rw [hu] at ht
   rcases List.mem_append.1 ht with ht | ht
   ·exact (Z2 (hg t ht).2).2.2.2.2.2
   ·rw [List.mem_singleton.1 ht]; exact Nat.zero_le _
 unfold a1p at h2
 obtain ⟨⟨n1, r1⟩, h3, h4⟩ := m3 h2
 obtain ⟨-, g2, T, u1, u2, u3⟩ := a2L _ 1 _ _ _ _ (by decide) hN (by decide) h3
 have hn : n1 = ns := by
  dsimp only at h4
  split at h4
  ·cases h4; rfl
  ·unfold E4 at h4; cases h4
 subst hn
 exact ⟨g2, T, u1, u2, by omega⟩
theorem a2g (s : ByteArray) (k : Nat) (hk : k < s.size) : (sl s)[k]? = some s[k] := by
 have := a0w s k hk
 have h2 : ((sl s).drop k)[0]? = some s[k] := by rw [this]; rfl
 simpa using h2
def tkA (q p : Nat) (t : List UInt8) (n : Nat) : Array Value := #[.int .i64 (q : Int), .int .i64 (p : Int), str t, .int .u32 (n : Int)]
theorem L7 : (Tryz.prog.info? 99).map (·.size) = some 4 := by kernel_rfl
def a2Q (p : Nat) (x : Except Int (Nat × List UInt8 × Nat)) : Array Value := match x with
 | .ok (q, t, n) => tkA q p t n
 | .error _ => tkA 0 0 [] 0
def a2R (x : Except Int (Nat × List UInt8 × Nat)) : Int := match x with
 | .ok _ => 0
 | .error e => e
def Tk.cells (x : Tk) : List Value := [.int .i64 (x.kind : Int), .int .i64 (x.pos : Int), str x.text, .int .u32 (x.num : Int)]
def a0r (xs : List Tk) : List Value := xs.flatMap Tk.cells
theorem a8D (x : Tk) (xs : List Tk) : a0r (x :: xs) = x.cells ++ a0r xs := rfl
theorem a8C (xs ys : List Tk) : a0r (xs ++ ys) = a0r xs ++ a0r ys := by simp only [a0r, List.flatMap_append]
theorem at4 (xs : List Tk) : (a0r xs).length = xs.length * 4 := by
 induction xs with
 | nil => rfl
 | cons x xs ih => rw [a8D, List.length_append, ih, List.length_cons]; simp [Tk.cells]; omega
theorem at3 (xs : List Tk) (i j : Nat) (hi : i < xs.length) (hj : j < 4) : (a0r xs)[i * 4 + j]? = (xs[i].cells)[j]? := by
 induction xs generalizing i with
 | nil => simp at hi
 | cons x xs ih =>
  rw [a8D]
  have hl : x.cells.length = 4 := rfl
  cases i with
  | zero => rw [List.getElem?_append_left (by omega)]; simp
  | succ i =>
   rw [List.getElem?_append_right (by omega), hl, show (i + 1) * 4 + j - 4 = i * 4 + j by omega, ih i (by simpa using hi)]
   simp
theorem CV.toks {w : World} {ao : Option Addr} {xs : List Tk} (h : CV w ao (a0r xs)) {k : Nat} (hk : k < xs.length) :
  ∃ b off, ao = some ⟨b, off, none⟩ ∧ ∀ i (hi : i < xs.length), w.cell? ⟨b, off + i * 4, none⟩ = some (.int .i64 (xs[i].kind : Int)) ∧ w.cell? ⟨b, off + i * 4 + 1, none⟩ = some (.int .i64 (xs[i].pos : Int)) ∧
   w.cell? ⟨b, off + i * 4 + 2, none⟩ = some (str xs[i].text) ∧ w.cell? ⟨b, off + i * 4 + 3, none⟩ = some (.int .u32 (xs[i].num : Int)) := by
 have hl := at4 xs
 obtain ⟨b, off, hao, hc⟩ := h.addr (k := k * 4) (by omega)
 refine ⟨b, off, hao, fun i hi => ?_⟩
 have key : ∀ j (hj : j < 4), w.cell? ⟨b, off + i * 4 + j, none⟩ = (xs[i].cells)[j]? := fun j hj => by
  rw [← at3 xs i j hi hj, Nat.add_assoc, hc (i * 4 + j) (by omega), List.getElem?_eq_getElem (by omega)]
 exact ⟨key 0 (by omega), key 1 (by omega), key 2 (by omega), key 3 (by omega)⟩
theorem ax5 : (Tryz.prog.info? 99).map (fun i => (i.zero, i.size, i.bytes)) = some (some (.agg #[.int .i64 0, .int .i64 0, .string .empty, .int .u32 0]), 4, 40) := by kernel_rfl
abbrev a03 (w : World) (base : Nat) (v : Value) (xs : List Tk) : Prop := w.ownsRow base 99 4 v xs.length (a0r xs)
def a5K (w : World) (row : Option Nat) (g g' n n' : Nat) (wr : World) : Prop := N7 wr 99 g n ∧ N7 wr 99 g' n' ∧ w.grownBy wr row
theorem a5K.set {w wr : World} {row : Option Nat} {g g' n n' : Nat} (h : a5K w row g g' n n' wr) {p : Addr} (hp : row = some p.block ∨ w.heap.size ≤ p.block) (u : Value) : a5K w row g g' n n' (wr.setCell p u) :=
 ⟨h.1.setCell _ _, h.2.1.setCell _ _, T3 h.2.2 _ _ hp⟩
def a9b (x : Except (Nat × Int) (List Tk)) : List Tk := match x with
 | .ok ts => ts
 | .error _ => []
def a6v (x : Except (Nat × Int) (List Tk)) : Nat := match x with
 | .ok _ => 0
 | .error e => e.1
def a6t (x : Except (Nat × Int) (List Tk)) : Int := match x with
 | .ok _ => 0
 | .error e => e.2
def a2s (us : List Tk) (x : Except (Nat × Int) (List Tk)) : Except (Nat × Int) (List Tk) := match x with
 | .ok ts => .ok (us ++ ts)
 | .error e => .error e
theorem ae4 {s : List UInt8} {e : Int} (h : j9 s = .error e) : (e != 0) = true := by
 unfold j9 at h
 split at h
 ·cases h
 ·split at h
  ·split at h
   ·cases h
   ·split at h
    ·cases h; rfl
    ·cases h
  ·split at h
   ·cases h
   ·split at h
    ·cases h; rfl
    ·cases h
def x0 (n : Nat) : Nat :=
 if n = 32 ∨ n = 9 ∨ n = 10 ∨ n = 13 then 1 else if 48 ≤ n ∧ n ≤ 57 then 2 else if 97 ≤ n ∧ n ≤ 102 then 3 else if 103 ≤ n ∧ n ≤ 122 then 4 else if n = 58 then 5 else if n = 46 then 6 else 0
theorem a3U (n : Nat) (w : World) :
  Calls Tryz.prog 83 #[.int .u8 (n : Int)] w fun e w' => e = .returned (.int .i64 (x0 n : Int)) ∧ w = w' := by
 have e1 : ∀ k : Nat, ((n : Int) == (k : Int)) = decide (n = k) := fun k => by
  by_cases h : n = k
  ·subst h; simp
  ·rw [beq_eq_false_iff_ne.2 (by omega), decide_eq_false h]
 have d32 := e1 32
 have d9 := e1 9
 have d10 := e1 10
 have d13 := e1 13
 have d58 := e1 58
 have d46 := e1 46
 clear e1
 unfold x0
 by_cases hb : n = 32 ∨ n = 9 ∨ n = 10 ∨ n = 13
 ·rw [if_pos hb]
  rcases hb with rfl | rfl | rfl | rfl <;>
  ·go_enter Tryz.func83, Tryz.ntmps83
   go_wp2
   go_ret
   exact ⟨rfl, rfl⟩
 rw [if_neg hb]
 have b32 : ((n : Int) == 32) = false := by rw [beq_eq_false_iff_ne]; omega
 have b9 : ((n : Int) == 9) = false := by rw [beq_eq_false_iff_ne]; omega
 have b10 : ((n : Int) == 10) = false := by rw [beq_eq_false_iff_ne]; omega
 have b13 : ((n : Int) == 13) = false := by rw [beq_eq_false_iff_ne]; omega
 clear d32 d9 d10 d13 d58 d46 hb
 by_cases hd : 48 ≤ n ∧ n ≤ 57
 ·rw [if_pos hd]
  have i1 : (48 : Int) ≤ (n : Int) := by omega
  have i2 : (n : Int) ≤ 57 := by omega
  clear hd
  go_enter Tryz.func83, Tryz.ntmps83
  go_wp2
  go_ret
  exact ⟨rfl, rfl⟩
 rw [if_neg hd]
 by_cases hx : 97 ≤ n ∧ n ≤ 102
 ·rw [if_pos hx]
  have i1 : (48 : Int) ≤ (n : Int) := by omega
  have i2 : ¬ (n : Int) ≤ 57 := by omega
  have i3 : (97 : Int) ≤ (n : Int) := by omega
  have i4 : (n : Int) ≤ 102 := by omega
  clear hd hx
  go_enter Tryz.func83, Tryz.ntmps83
  go_wp2
  go_ret
  exact ⟨rfl, rfl⟩
 rw [if_neg hx]
 by_cases hl : 103 ≤ n ∧ n ≤ 122
 ·rw [if_pos hl]
  have i1 : (48 : Int) ≤ (n : Int) := by omega
  have i2 : ¬ (n : Int) ≤ 57 := by omega
  have i3 : (97 : Int) ≤ (n : Int) := by omega
  have i4 : ¬ (n : Int) ≤ 102 := by omega
  have i5 : (103 : Int) ≤ (n : Int) := by omega
  have i6 : (n : Int) ≤ 122 := by omega
  clear hd hx hl
  go_enter Tryz.func83, Tryz.ntmps83
  go_wp2
  go_ret
  exact ⟨rfl, rfl⟩
 rw [if_neg hl]
 by_cases h58 : n = 58
 ·rw [if_pos h58]
  subst h58
  clear b32 b9 b10 b13 hd hx hl
  go_enter Tryz.func83, Tryz.ntmps83
  go_wp2
  go_ret
  exact ⟨rfl, rfl⟩
 rw [if_neg h58]
 have b58 : ((n : Int) == 58) = false := by rw [beq_eq_false_iff_ne]; omega
 by_cases h46 : n = 46
 ·rw [if_pos h46]
  subst h46
  clear b32 b9 b10 b13 hd hx hl b58
  go_enter Tryz.func83, Tryz.ntmps83
  go_wp2
  go_ret
  exact ⟨rfl, rfl⟩
 rw [if_neg h46]
 have b46 : ((n : Int) == 46) = false := by rw [beq_eq_false_iff_ne]; omega
 have c1 : (decide ((48 : Int) ≤ (n : Int)) && decide ((n : Int) ≤ 57)) = false := by simp; omega
 have c2 : (decide ((97 : Int) ≤ (n : Int)) && decide ((n : Int) ≤ 102)) = false := by simp; omega
 have c3 : (decide ((103 : Int) ≤ (n : Int)) && decide ((n : Int) ≤ 122)) = false := by simp; omega
 have hs : n < 48 ∨ (57 < n ∧ n < 97) ∨ 122 < n := by omega
 clear h58 h46 hl c1 c2 c3
 rcases hs with h | ⟨h, h'⟩ | h
 ·have i1 : ¬ (48 : Int) ≤ (n : Int) := by omega
  have i3 : ¬ (97 : Int) ≤ (n : Int) := by omega
  have i5 : ¬ (103 : Int) ≤ (n : Int) := by omega
  clear hd hx h
  go_enter Tryz.func83, Tryz.ntmps83
  go_wp2
  go_ret
  exact ⟨rfl, rfl⟩
 ·have i1 : (48 : Int) ≤ (n : Int) := by omega
  have i2 : ¬ (n : Int) ≤ 57 := by omega
  have i3 : ¬ (97 : Int) ≤ (n : Int) := by omega
  have i5 : ¬ (103 : Int) ≤ (n : Int) := by omega
  clear hd hx h h'
  go_enter Tryz.func83, Tryz.ntmps83
  go_wp2
  go_ret
  exact ⟨rfl, rfl⟩
 ·have i1 : (48 : Int) ≤ (n : Int) := by omega
  have i2 : ¬ (n : Int) ≤ 57 := by omega
  have i3 : (97 : Int) ≤ (n : Int) := by omega
  have i4 : ¬ (n : Int) ≤ 102 := by omega
  have i5 : (103 : Int) ≤ (n : Int) := by omega
  have i6 : ¬ (n : Int) ≤ 122 := by omega
  clear hd hx h
  go_enter Tryz.func83, Tryz.ntmps83
  go_wp2
  go_ret
  exact ⟨rfl, rfl⟩
theorem az8 (c : UInt8) : ((x0 c.toNat : Int) == 1) = I3 c := by
 have h : ∀ k : Fin 256, ((x0 k.1 : Int) == 1) = I3 (UInt8.ofNat k.1) := by decide +kernel
 have := h ⟨c.toNat, c.toNat_lt⟩
 simpa using this
theorem a1P (c : UInt8) : x0 c.toNat ≤ 6 ∧ j8 c = decide (x0 c.toNat = 2 ∨ x0 c.toNat = 3 ∨ x0 c.toNat = 5) ∧ t8 c = decide (x0 c.toNat = 2 ∨ x0 c.toNat = 6) ∧ k6 c = decide (x0 c.toNat = 2 ∨ x0 c.toNat = 3 ∨ x0 c.toNat = 4) ∧
  decide (c = 58) = decide (x0 c.toNat = 5) ∧ decide (c = 46) = decide (x0 c.toNat = 6) ∧ D3 c = decide (x0 c.toNat = 2) ∧ a0l c = decide (x0 c.toNat = 3 ∨ x0 c.toNat = 4) := by
 have h : ∀ k : Fin 256, x0 k.1 ≤ 6 ∧ j8 (UInt8.ofNat k.1) = decide (x0 k.1 = 2 ∨ x0 k.1 = 3 ∨ x0 k.1 = 5) ∧ t8 (UInt8.ofNat k.1) = decide (x0 k.1 = 2 ∨ x0 k.1 = 6) ∧ k6 (UInt8.ofNat k.1) = decide (x0 k.1 = 2 ∨ x0 k.1 = 3 ∨ x0 k.1 = 4) ∧
  decide (UInt8.ofNat k.1 = 58) = decide (x0 k.1 = 5) ∧ decide (UInt8.ofNat k.1 = 46) = decide (x0 k.1 = 6) ∧ D3 (UInt8.ofNat k.1) = decide (x0 k.1 = 2) ∧ a0l (UInt8.ofNat k.1) = decide (x0 k.1 = 3 ∨ x0 k.1 = 4) := by decide +kernel
 have := h ⟨c.toNat, c.toNat_lt⟩
 simpa only [UInt8.ofNat_toNat] using this
theorem ay5 (c : UInt8) (w : World) :
  Calls Tryz.prog 82 #[.int .u8 (c.toNat : Int)] w fun e w' => e = .returned (.bool (I3 c)) ∧ w = w' := by
 rw [← az8 c]
 have C := a3U c.toNat w
 generalize x0 c.toNat = q at *
 go_enter Tryz.func82, Tryz.ntmps82
 go_wp2_with fail
 refine C.mono ?_
 rintro e w1 ⟨rfl, rfl⟩
 clear C
 go_wp2
 go_ret
 exact ⟨rfl, rfl⟩
theorem ay8 (c : UInt8) (w : World) :
  Calls Tryz.prog 149 #[.int .u8 (c.toNat : Int)] w fun e w' => e = .returned (.bool (k6 c)) ∧ w = w' := by
 have hk := (a1P c).1
 rw [(a1P c).2.2.2.1]
 have C := a3U c.toNat w
 generalize x0 c.toNat = q at *
 have hq : q = 0 ∨ q = 1 ∨ q = 2 ∨ q = 3 ∨ q = 4 ∨ q = 5 ∨ q = 6 := by omega
 clear hk
 rcases hq with rfl | rfl | rfl | rfl | rfl | rfl | rfl <;>
 ·go_enter Tryz.func149, Tryz.ntmps149
  go_wp2_with fail
  refine C.mono ?_
  rintro e w1 ⟨rfl, rfl⟩
  clear C
  go_wp2
  go_ret
  exact ⟨rfl, rfl⟩
theorem ay7 (c : UInt8) (g k : Nat) (hk : k ≤ 140737488355328) (w : World) (A : VAt w g 3 #[.int .i64 (k : Int)]) :
  Calls Tryz.prog 145 #[.int .u8 (c.toNat : Int), .pointer (some ⟨g, 0, none⟩)] w fun e w' => e = .returned (.bool (j8 c)) ∧ VAt w' g 3 #[.int .i64 ((k + (if c = 58 then 1 else 0) : Nat) : Int)] ∧ w.grownBy w' (some g) := by
 have hq := (a1P c).1
 have h5 := (a1P c).2.2.2.2.1
 rw [(a1P c).2.1]
 have C := a3U c.toNat w
 generalize x0 c.toNat = q at *
 have A0 : w.cell? ⟨g, 0, none⟩ = some (.int .i64 (k : Int)) := A.cell 0
 have hfz := A.free 0
 have hw1 : IntKind.i64.wrap ((k : Int) + 1) = ((k + 1 : Nat) : Int) := by rw [IntKind.wrap_i64]; omega
 have AS : VAt (w.setCell ⟨g, 0, none⟩ (.int .i64 ((k + 1 : Nat) : Int))) g 3 #[.int .i64 ((k + 1 : Nat) : Int)] := A.set 0 _
 have HA : Hid (VAt w g 3 #[.int .i64 (k : Int)]) := A
 have HAS : Hid _ := AS
 clear A AS
 by_cases hc : c = 58
 ·rw [if_pos hc]
  rw [decide_eq_true hc] at h5
  obtain rfl : q = 5 := of_decide_eq_true h5.symm
  clear hq h5 hc
  go_enter Tryz.func145, Tryz.ntmps145
  go_wp2_with fail
  refine C.mono ?_
  rintro e w1 ⟨rfl, rfl⟩
  clear C
  go_wp2
  go_ret
  exact ⟨rfl, HAS.out, a4H _ _ _⟩
 ·rw [if_neg hc]
  rw [decide_eq_false hc] at h5
  have h5' : q ≠ 5 := of_decide_eq_false h5.symm
  have hs : q = 0 ∨ q = 1 ∨ q = 2 ∨ q = 3 ∨ q = 4 ∨ q = 6 := by omega
  clear hq h5 hc h5' HAS hw1
  rcases hs with rfl | rfl | rfl | rfl | rfl | rfl <;>
  ·go_enter Tryz.func145, Tryz.ntmps145
   go_wp2_with fail
   refine C.mono ?_
   rintro e w1 ⟨rfl, rfl⟩
   clear C
   go_wp2
   go_ret
   exact ⟨rfl, HA.out, World.grownBy.refl _ _⟩
theorem ay6 (c : UInt8) (g : Nat) (k : Bool) (w : World) (A : VAt w g 4 #[.bool k]) :
  Calls Tryz.prog 146 #[.int .u8 (c.toNat : Int), .pointer (some ⟨g, 0, none⟩)] w fun e w' => e = .returned (.bool (t8 c)) ∧ VAt w' g 4 #[.bool (k || decide (c = 46))] ∧ w.grownBy w' (some g) := by
 have hq := (a1P c).1
 have h5 := (a1P c).2.2.2.2.2.1
 rw [h5, (a1P c).2.2.1]
 have C := a3U c.toNat w
 generalize x0 c.toNat = q at *
 have A0 : w.cell? ⟨g, 0, none⟩ = some (.bool k) := A.cell 0
 have hfz := A.free 0
 have HA : Hid (∀ b, VAt (w.setCell ⟨g, 0, none⟩ (.bool b)) g 4 #[.bool b]) := fun b => A.set 0 (.bool b)
 clear A h5
 have hs : q = 0 ∨ q = 1 ∨ q = 2 ∨ q = 3 ∨ q = 4 ∨ q = 5 ∨ q = 6 := by omega
 clear hq
 cases k <;>
 ·rcases hs with rfl | rfl | rfl | rfl | rfl | rfl | rfl <;>
  ·go_enter Tryz.func146, Tryz.ntmps146
   go_wp2_with fail
   refine C.mono ?_
   rintro e w1 ⟨rfl, rfl⟩
   clear C
   go_wp2
   go_ret
   exact ⟨rfl, HA.out _, a4H _ _ _⟩
theorem aS9 (s : ByteArray) (hs : s.size ≤ 140737488355328) (w : World) :
  Calls Tryz.prog 81 #[.string s, .func (.func 82) #[] #[]] w fun e w' => e = .returned (str ((sl s).takeWhile I3)) ∧ w = w' := by
 have HIN : Hid (∀ (c : UInt8) (W : World), Calls Tryz.prog 82 #[.int .u8 (c.toNat : Int)] W fun e w' => e = .returned (.bool (I3 c)) ∧ W = w') := fun c W => ay5 c W
 obtain ⟨ans, hans⟩ : ∃ ans, (sl s).takeWhile I3 = ans := ⟨_, rfl⟩
 have HA : Hid ((sl s).takeWhile I3 = ans) := hans
 rw [hans]
 clear hans
 go_enter Tryz.func81, Tryz.ntmps81
 go_wp2
 go_loopw [5] (fun i wr => ∃ j : Nat, j ≤ s.size ∧ i = .int .i64 j ∧ Hid ((sl s).take j ++ ((sl s).drop j).takeWhile I3 = ans) ∧ wr = w) (fun i _ => s.size - (intOf i).toNat)
 case atStart => exact ⟨0, Nat.zero_le _, rfl, HA, rfl⟩
 case round =>
  obtain ⟨j, h2, rfl, HJ, rfl⟩ := hrel
  have z1 : (0 : Int) ≤ (j : Int) := by omega
  have z3 : (j : Int) ≤ (s.size : Int) := by omega
  by_cases hlt : j < s.size
  ·have hji : (j : Int) < (s.size : Int) := by omega
   have HD : Hid ((sl s).drop j = s[j] :: (sl s).drop (j + 1)) := a0w s j hlt
   have CI := HIN.out s[j] wr
   cases hp : I3 s[j] with
   | true =>
    rw [hp] at CI
    have HN : Hid ((sl s).take (j + 1) ++ ((sl s).drop (j + 1)).takeWhile I3 = ans) := by
     show _ = ans
     rw [← HJ.out, HD.out, List.takeWhile_cons_of_pos hp, List.take_add_one, a2g s j hlt, Option.toList_some, List.append_assoc]
     rfl
    clear HJ HD
    go_wp2_with fail
    refine CI.mono ?_
    rintro e w1 ⟨rfl, rfl⟩
    clear CI
    go_wp2
    go_roundw
    case rel => exact ⟨j + 1, by omega, by go_num, HN, by first | rfl | trivial⟩
    case measure => simp [intOf]; omega
   | false =>
    rw [hp] at CI
    have hE : sl (s.extract 0 j) = ans := by
     rw [a2O, ← HJ.out, HD.out, List.takeWhile_cons_of_neg (by rw [hp]; simp), List.append_nil]
     simp
    have HE : Hid (Value.string (s.extract 0 j) = str ans) := by show Value.string (s.extract 0 j) = str ans; rw [a0X, hE]
    clear HJ HD hE
    go_wp2_with fail
    refine CI.mono ?_
    rintro e w1 ⟨rfl, rfl⟩
    clear CI
    go_wp2
    go_ret
    exact ⟨by rw [HE.out]; rfl, rfl⟩
  ·obtain rfl : j = s.size := by omega
   have hji : ¬ (s.size : Int) < (s.size : Int) := by omega
   have hE : sl s = ans := by
    rw [← HJ.out, List.drop_eq_nil_of_le (i := s.size) (by rw [o8]; exact Nat.le_refl _), ← o8]
    simp
   have HE : Hid (Value.string s = str ans) := by show Value.string s = str ans; rw [a0X, hE]
   clear HJ hE
   go_wp2
   go_ret
   exact ⟨by show Ending.returned (Value.string s) = _; rw [HE.out], rfl⟩
theorem aT2 (s : ByteArray) (hs : s.size ≤ 140737488355328) (w : World) :
  Calls Tryz.prog 81 #[.string s, .func (.func 149) #[] #[]] w fun e w' => e = .returned (str ((sl s).takeWhile k6)) ∧ w = w' := by
 have HIN : Hid (∀ (c : UInt8) (W : World), Calls Tryz.prog 149 #[.int .u8 (c.toNat : Int)] W fun e w' => e = .returned (.bool (k6 c)) ∧ W = w') := fun c W => ay8 c W
 obtain ⟨ans, hans⟩ : ∃ ans, (sl s).takeWhile k6 = ans := ⟨_, rfl⟩
 have HA : Hid ((sl s).takeWhile k6 = ans) := hans
 rw [hans]
 clear hans
 go_enter Tryz.func81, Tryz.ntmps81
 go_wp2
 go_loopw [5] (fun i wr => ∃ j : Nat, j ≤ s.size ∧ i = .int .i64 j ∧ Hid ((sl s).take j ++ ((sl s).drop j).takeWhile k6 = ans) ∧ wr = w) (fun i _ => s.size - (intOf i).toNat)
 case atStart => exact ⟨0, Nat.zero_le _, rfl, HA, rfl⟩
 case round =>
  obtain ⟨j, h2, rfl, HJ, rfl⟩ := hrel
  have z1 : (0 : Int) ≤ (j : Int) := by omega
  have z3 : (j : Int) ≤ (s.size : Int) := by omega
  by_cases hlt : j < s.size
  ·have hji : (j : Int) < (s.size : Int) := by omega
   have HD : Hid ((sl s).drop j = s[j] :: (sl s).drop (j + 1)) := a0w s j hlt
   have CI := HIN.out s[j] wr
   cases hp : k6 s[j] with
   | true =>
    rw [hp] at CI
    have HN : Hid ((sl s).take (j + 1) ++ ((sl s).drop (j + 1)).takeWhile k6 = ans) := by
     show _ = ans
     rw [← HJ.out, HD.out, List.takeWhile_cons_of_pos hp, List.take_add_one, a2g s j hlt, Option.toList_some, List.append_assoc]
     rfl
    clear HJ HD
    go_wp2_with fail
    refine CI.mono ?_
    rintro e w1 ⟨rfl, rfl⟩
    clear CI
    go_wp2
    go_roundw
    case rel => exact ⟨j + 1, by omega, by go_num, HN, by first | rfl | trivial⟩
    case measure => simp [intOf]; omega
   | false =>
    rw [hp] at CI
    have hE : sl (s.extract 0 j) = ans := by
     rw [a2O, ← HJ.out, HD.out, List.takeWhile_cons_of_neg (by rw [hp]; simp), List.append_nil]
     simp
    have HE : Hid (Value.string (s.extract 0 j) = str ans) := by show Value.string (s.extract 0 j) = str ans; rw [a0X, hE]
    clear HJ HD hE
    go_wp2_with fail
    refine CI.mono ?_
    rintro e w1 ⟨rfl, rfl⟩
    clear CI
    go_wp2
    go_ret
    exact ⟨by rw [HE.out]; rfl, rfl⟩
  ·obtain rfl : j = s.size := by omega
   have hji : ¬ (s.size : Int) < (s.size : Int) := by omega
   have hE : sl s = ans := by
    rw [← HJ.out, List.drop_eq_nil_of_le (i := s.size) (by rw [o8]; exact Nat.le_refl _), ← o8]
    simp
   have HE : Hid (Value.string s = str ans) := by show Value.string s = str ans; rw [a0X, hE]
   clear HJ hE
   go_wp2
   go_ret
   exact ⟨by show Ending.returned (Value.string s) = _; rw [HE.out], rfl⟩
theorem aT1 (s : ByteArray) (g : Nat) (hs : s.size ≤ 140737488355328) (w : World) (A : VAt w g 3 #[.int .i64 0]) :
  Calls Tryz.prog 81 #[.string s, .func (.func 145) #[] #[.pointer (some ⟨g, 0, none⟩)]] w fun e w' => e = .returned (str ((sl s).takeWhile j8)) ∧ VAt w' g 3 #[.int .i64 (((sl s).takeWhile j8).count 58 : Int)] ∧ w.grownBy w' (some g) := by
 have HIN : Hid (∀ (c : UInt8) (k : Nat) (W : World), k ≤ 140737488355328 → VAt W g 3 #[.int .i64 (k : Int)] → Calls Tryz.prog 145 #[.int .u8 (c.toNat : Int), .pointer (some ⟨g, 0, none⟩)] W fun e w' => e = .returned (.bool (j8 c)) ∧ VAt w' g 3 #[.int .i64 ((k + (if c = 58 then 1 else 0) : Nat) : Int)] ∧ W.grownBy w' (some g)) := fun c k W hk A => ay7 c g k hk W A
 obtain ⟨N, hN⟩ : ∃ N, ((sl s).takeWhile j8).count 58 = N := ⟨_, rfl⟩
 have HN0 : Hid (0 + (((sl s).drop 0).takeWhile j8).count 58 = N) := by show 0 + _ = N; rw [Nat.zero_add, List.drop_zero]; exact hN
 rw [hN]
 clear hN
 obtain ⟨ans, hans⟩ : ∃ ans, (sl s).takeWhile j8 = ans := ⟨_, rfl⟩
 have HA : Hid ((sl s).takeWhile j8 = ans) := hans
 rw [hans]
 clear hans
 go_enter Tryz.func81, Tryz.ntmps81
 go_wp2
 go_loopw [5] (fun i wr => ∃ j k : Nat, j ≤ s.size ∧ k ≤ j ∧ i = .int .i64 j ∧ Hid ((sl s).take j ++ ((sl s).drop j).takeWhile j8 = ans) ∧ Hid (k + (((sl s).drop j).takeWhile j8).count 58 = N) ∧ Hid (VAt wr g 3 #[.int .i64 (k : Int)] ∧ w.grownBy wr (some g))) (fun i _ => s.size - (intOf i).toNat)
 case atStart => exact ⟨0, 0, Nat.zero_le _, Nat.le_refl _, rfl, HA, HN0, A, World.grownBy.refl _ _⟩
 case round =>
  clear A HN0 HA
  obtain ⟨j, k, h2, hkj, rfl, HJ, HC, HW⟩ := hrel
  have z1 : (0 : Int) ≤ (j : Int) := by omega
  have z3 : (j : Int) ≤ (s.size : Int) := by omega
  by_cases hlt : j < s.size
  ·have hji : (j : Int) < (s.size : Int) := by omega
   have HD : Hid ((sl s).drop j = s[j] :: (sl s).drop (j + 1)) := a0w s j hlt
   have CI := HIN.out s[j] k wr (by omega) HW.out.1
   cases hp : j8 s[j] with
   | true =>
    rw [hp] at CI
    have HN : Hid ((sl s).take (j + 1) ++ ((sl s).drop (j + 1)).takeWhile j8 = ans) := by
     show _ = ans
     rw [← HJ.out, HD.out, List.takeWhile_cons_of_pos hp, List.take_add_one, a2g s j hlt, Option.toList_some, List.append_assoc]
     rfl
    have HM : Hid (k + (if s[j] = 58 then 1 else 0) + (((sl s).drop (j + 1)).takeWhile j8).count 58 = N) := by
     show _ = N
     rw [← HC.out, HD.out, List.takeWhile_cons_of_pos hp, List.count_cons]
     by_cases h58 : s[j] = 58
     ·rw [if_pos h58, if_pos (by simp [h58])]; omega
     ·rw [if_neg h58, if_neg (by simpa using h58)]; omega
    have HL : Hid (k + (if s[j] = 58 then 1 else 0) ≤ j + 1) := by show _ ≤ j + 1; split <;> omega
    generalize (k + (if s[j] = 58 then 1 else 0)) = k1 at *
    clear HJ HD
    go_wp2_with fail
    refine CI.mono ?_
    rintro e w1 ⟨rfl, A1, K1⟩
    have HW1 : Hid (VAt w1 g _ _ ∧ w.grownBy w1 (some g)) := ⟨A1, d3 HW.out.2 K1⟩
    clear CI A1 K1 HW HC
    go_wp2
    go_roundw
    case rel => exact ⟨j + 1, k1, by omega, HL.out, by go_num, HN, HM, HW1⟩
    case measure => simp [intOf]; omega
   | false =>
    rw [hp] at CI
    have hE : sl (s.extract 0 j) = ans := by
     rw [a2O, ← HJ.out, HD.out, List.takeWhile_cons_of_neg (by rw [hp]; simp), List.append_nil]
     simp
    have HE : Hid (Value.string (s.extract 0 j) = str ans) := by show Value.string (s.extract 0 j) = str ans; rw [a0X, hE]
    have hk : k + (if s[j] = 58 then 1 else 0) = N := by
     have h58 : ¬ s[j] = 58 := fun e => by rw [e] at hp; exact absurd hp (by decide)
     rw [if_neg h58, ← HC.out, HD.out, List.takeWhile_cons_of_neg (by rw [hp]; simp)]
     rfl
    rw [hk] at CI
    clear hk
    clear HJ HD hE
    go_wp2_with fail
    refine CI.mono ?_
    rintro e w1 ⟨rfl, A1, K1⟩
    have HW1 : Hid (VAt w1 g _ _ ∧ w.grownBy w1 (some g)) := ⟨A1, d3 HW.out.2 K1⟩
    clear CI A1 K1 HW HC
    go_wp2
    go_ret
    exact ⟨by rw [HE.out]; rfl, HW1.out.1, HW1.out.2⟩
  ·obtain rfl : j = s.size := by omega
   have hji : ¬ (s.size : Int) < (s.size : Int) := by omega
   have hE : sl s = ans := by
    rw [← HJ.out, List.drop_eq_nil_of_le (i := s.size) (by rw [o8]; exact Nat.le_refl _), ← o8]
    simp
   have HE : Hid (Value.string s = str ans) := by show Value.string s = str ans; rw [a0X, hE]
   obtain rfl : k = N := by
    have := HC.out
    rw [List.drop_eq_nil_of_le (i := s.size) (by rw [o8]; exact Nat.le_refl _)] at this
    simpa using this
   clear HC
   clear HJ hE
   go_wp2
   go_ret
   exact ⟨by show Ending.returned (Value.string s) = _; rw [HE.out], HW.out.1, HW.out.2⟩
theorem aT0 (s : ByteArray) (g : Nat) (hs : s.size ≤ 140737488355328) (w : World) (A : VAt w g 4 #[.bool false]) :
  Calls Tryz.prog 81 #[.string s, .func (.func 146) #[] #[.pointer (some ⟨g, 0, none⟩)]] w fun e w' => e = .returned (str ((sl s).takeWhile t8)) ∧ VAt w' g 4 #[.bool (((sl s).takeWhile t8).contains 46)] ∧ w.grownBy w' (some g) := by
 have HIN : Hid (∀ (c : UInt8) (k : Bool) (W : World), VAt W g 4 #[.bool k] → Calls Tryz.prog 146 #[.int .u8 (c.toNat : Int), .pointer (some ⟨g, 0, none⟩)] W fun e w' => e = .returned (.bool (t8 c)) ∧ VAt w' g 4 #[.bool (k || decide (c = 46))] ∧ W.grownBy w' (some g)) := fun c k W A => ay6 c g k W A
 obtain ⟨N, hN⟩ : ∃ N, ((sl s).takeWhile t8).contains 46 = N := ⟨_, rfl⟩
 have HN0 : Hid ((false || (((sl s).drop 0).takeWhile t8).contains 46) = N) := by show (false || _) = N; rw [Bool.false_or, List.drop_zero]; exact hN
 rw [hN]
 clear hN
 obtain ⟨ans, hans⟩ : ∃ ans, (sl s).takeWhile t8 = ans := ⟨_, rfl⟩
 have HA : Hid ((sl s).takeWhile t8 = ans) := hans
 rw [hans]
 clear hans
 go_enter Tryz.func81, Tryz.ntmps81
 go_wp2
 go_loopw [5] (fun i wr => ∃ (j : Nat) (k : Bool), j ≤ s.size ∧ i = .int .i64 j ∧ Hid ((sl s).take j ++ ((sl s).drop j).takeWhile t8 = ans) ∧ Hid ((k || (((sl s).drop j).takeWhile t8).contains 46) = N) ∧ Hid (VAt wr g 4 #[.bool k] ∧ w.grownBy wr (some g))) (fun i _ => s.size - (intOf i).toNat)
 case atStart => exact ⟨0, false, Nat.zero_le _, rfl, HA, HN0, A, World.grownBy.refl _ _⟩
 case round =>
  clear A HN0 HA
  obtain ⟨j, k, h2, rfl, HJ, HC, HW⟩ := hrel
  have z1 : (0 : Int) ≤ (j : Int) := by omega
  have z3 : (j : Int) ≤ (s.size : Int) := by omega
  by_cases hlt : j < s.size
  ·have hji : (j : Int) < (s.size : Int) := by omega
   have HD : Hid ((sl s).drop j = s[j] :: (sl s).drop (j + 1)) := a0w s j hlt
   have CI := HIN.out s[j] k wr HW.out.1
   cases hp : t8 s[j] with
   | true =>
    rw [hp] at CI
    have HN : Hid ((sl s).take (j + 1) ++ ((sl s).drop (j + 1)).takeWhile t8 = ans) := by
     show _ = ans
     rw [← HJ.out, HD.out, List.takeWhile_cons_of_pos hp, List.take_add_one, a2g s j hlt, Option.toList_some, List.append_assoc]
     rfl
    have HM : Hid (((k || decide (s[j] = 46)) || (((sl s).drop (j + 1)).takeWhile t8).contains 46) = N) := by
     show _ = N
     rw [← HC.out, HD.out, List.takeWhile_cons_of_pos hp, List.contains_cons, Bool.or_assoc]
     congr 2
     by_cases h46 : s[j] = 46
     ·rw [h46]; rfl
     ·rw [decide_eq_false h46, beq_eq_false_iff_ne.2 (fun e => h46 e.symm)]
    generalize (k || decide (s[j] = 46)) = k1 at *
    clear HJ HD
    go_wp2_with fail
    refine CI.mono ?_
    rintro e w1 ⟨rfl, A1, K1⟩
    have HW1 : Hid (VAt w1 g _ _ ∧ w.grownBy w1 (some g)) := ⟨A1, d3 HW.out.2 K1⟩
    clear CI A1 K1 HW HC
    go_wp2
    go_roundw
    case rel => exact ⟨j + 1, k1, by omega, by go_num, HN, HM, HW1⟩
    case measure => simp [intOf]; omega
   | false =>
    rw [hp] at CI
    have hE : sl (s.extract 0 j) = ans := by
     rw [a2O, ← HJ.out, HD.out, List.takeWhile_cons_of_neg (by rw [hp]; simp), List.append_nil]
     simp
    have HE : Hid (Value.string (s.extract 0 j) = str ans) := by show Value.string (s.extract 0 j) = str ans; rw [a0X, hE]
    have hk : (k || decide (s[j] = 46)) = N := by
     have h46 : ¬ s[j] = 46 := fun e => by rw [e] at hp; exact absurd hp (by decide)
     rw [decide_eq_false h46, ← HC.out, HD.out, List.takeWhile_cons_of_neg (by rw [hp]; simp)]
     simp
    rw [hk] at CI
    clear hk
    clear HJ HD hE
    go_wp2_with fail
    refine CI.mono ?_
    rintro e w1 ⟨rfl, A1, K1⟩
    have HW1 : Hid (VAt w1 g _ _ ∧ w.grownBy w1 (some g)) := ⟨A1, d3 HW.out.2 K1⟩
    clear CI A1 K1 HW HC
    go_wp2
    go_ret
    exact ⟨by rw [HE.out]; rfl, HW1.out.1, HW1.out.2⟩
  ·obtain rfl : j = s.size := by omega
   have hji : ¬ (s.size : Int) < (s.size : Int) := by omega
   have hE : sl s = ans := by
    rw [← HJ.out, List.drop_eq_nil_of_le (i := s.size) (by rw [o8]; exact Nat.le_refl _), ← o8]
    simp
   have HE : Hid (Value.string s = str ans) := by show Value.string s = str ans; rw [a0X, hE]
   obtain rfl : k = N := by
    have := HC.out
    rw [List.drop_eq_nil_of_le (i := s.size) (by rw [o8]; exact Nat.le_refl _)] at this
    simpa using this
   clear HC
   clear HJ hE
   go_wp2
   go_ret
   exact ⟨by show Ending.returned (Value.string s) = _; rw [HE.out], HW.out.1, HW.out.2⟩
def a2M (s : List UInt8) : List UInt8 := if 2 ≤ (s.takeWhile j8).count 58 then s.takeWhile j8 else []
def a2H (s : List UInt8) : List UInt8 := if (s.takeWhile t8).contains 46 = true then s.takeWhile t8 else []
theorem aW8 (s : ByteArray) (hs : s.size ≤ 140737488355328) (w : World) :
  Calls Tryz.prog 118 #[.string s] w fun e w' => e = .returned (str (a2M (sl s))) ∧ w.grownBy w' none := by
 have hmf : ∀ (fn : Fn) (first cap : Array Value) (w : World), (Instr.makeFunc fn first cap).run Tryz.prog w = .ok (.func fn first cap) w := fun _ _ _ _ => rfl
 have A1 : VAt (w.alloc (.cells #[.int .i64 0] 3)) w.heap.size 3 #[.int .i64 0] := VAt.alloc w 3 #[.int .i64 0]
 have G1 : w.grownBy (w.alloc (.cells #[.int .i64 0] 3)) none := World.grownBy_alloc w _ none
 have C := aT1 s w.heap.size hs _ A1
 have HG : Hid (w.grownBy _ none) := G1
 clear A1 G1
 have hsix : a2M (sl s) = if 2 ≤ ((sl s).takeWhile j8).count 58 then (sl s).takeWhile j8 else [] := rfl
 rw [hsix]
 clear hsix
 generalize ((sl s).takeWhile j8).count 58 = N at *
 generalize (sl s).takeWhile j8 = ans at *
 by_cases hN : 2 ≤ N
 ·rw [if_pos hN]
  have hN' : ¬ (N : Int) < 2 := by omega
  clear hN
  go_enter Tryz.func118, Tryz.ntmps118
  go_wp2_with fail
  refine C.mono ?_
  rintro e w2 ⟨rfl, A2, K2⟩
  have c2 : w2.cell? ⟨w.heap.size, 0, none⟩ = some (.int .i64 (N : Int)) := A2.cell 0
  have HG2 : Hid (w.grownBy w2 none) := a00 HG.out K2 (fun x hx => by injection hx with hx; omega)
  clear C A2 K2 HG
  go_wp2
  go_ret
  exact ⟨rfl, HG2.out⟩
 ·rw [if_neg hN]
  have hN' : (N : Int) < 2 := by omega
  clear hN
  go_enter Tryz.func118, Tryz.ntmps118
  go_wp2_with fail
  refine C.mono ?_
  rintro e w2 ⟨rfl, A2, K2⟩
  have c2 : w2.cell? ⟨w.heap.size, 0, none⟩ = some (.int .i64 (N : Int)) := A2.cell 0
  have HG2 : Hid (w.grownBy w2 none) := a00 HG.out K2 (fun x hx => by injection hx with hx; omega)
  clear C A2 K2 HG
  go_wp2
  go_ret
  exact ⟨rfl, HG2.out⟩
theorem aQ3 (s : ByteArray) (hs : s.size ≤ 140737488355328) (w : World) :
  Calls Tryz.prog 119 #[.string s] w fun e w' => e = .returned (str (a2H (sl s))) ∧ w.grownBy w' none := by
 have hmf : ∀ (fn : Fn) (first cap : Array Value) (w : World), (Instr.makeFunc fn first cap).run Tryz.prog w = .ok (.func fn first cap) w := fun _ _ _ _ => rfl
 have A1 : VAt (w.alloc (.cells #[.bool false] 4)) w.heap.size 4 #[.bool false] := VAt.alloc w 4 #[.bool false]
 have G1 : w.grownBy (w.alloc (.cells #[.bool false] 4)) none := World.grownBy_alloc w _ none
 have C := aT0 s w.heap.size hs _ A1
 have HG : Hid (w.grownBy _ none) := G1
 clear A1 G1
 have hquad : a2H (sl s) = if ((sl s).takeWhile t8).contains 46 = true then (sl s).takeWhile t8 else [] := rfl
 rw [hquad]
 clear hquad
 generalize ((sl s).takeWhile t8).contains 46 = N at *
 generalize (sl s).takeWhile t8 = ans at *
 cases N with
 | true =>
  rw [if_pos rfl]
  go_enter Tryz.func119, Tryz.ntmps119
  go_wp2_with fail
  refine C.mono ?_
  rintro e w2 ⟨rfl, A2, K2⟩
  have c2 : w2.cell? ⟨w.heap.size, 0, none⟩ = some (.bool true) := A2.cell 0
  have HG2 : Hid (w.grownBy w2 none) := a00 HG.out K2 (fun x hx => by injection hx with hx; omega)
  clear C A2 K2 HG
  go_wp2
  go_ret
  exact ⟨rfl, HG2.out⟩
 | false =>
  rw [if_neg (by simp)]
  go_enter Tryz.func119, Tryz.ntmps119
  go_wp2_with fail
  refine C.mono ?_
  rintro e w2 ⟨rfl, A2, K2⟩
  have c2 : w2.cell? ⟨w.heap.size, 0, none⟩ = some (.bool false) := A2.cell 0
  have HG2 : Hid (w.grownBy w2 none) := a00 HG.out K2 (fun x hx => by injection hx with hx; omega)
  clear C A2 K2 HG
  go_wp2
  go_ret
  exact ⟨rfl, HG2.out⟩
theorem aE9 (s : ByteArray) (hs : s.size ≤ 140737488355328) (w : World) :
  Calls Tryz.prog 121 #[.string s] w fun e w' => e = .returned (str ((sl s).takeWhile k6)) ∧ w = w' := by
 have C := aT2 s hs w
 go_enter Tryz.func121, Tryz.ntmps121
 go_wp2_with fail
 refine C.mono ?_
 rintro e w2 ⟨rfl, rfl⟩
 clear C
 go_wp2
 go_ret
 exact ⟨rfl, rfl⟩
def a0U : List (List UInt8) := J6 ++ a0R.map fun c => [c]
def Tab (w : World) : Prop := (∃ ao cap, w.cell? ⟨0, 0, none⟩ = some (.slice ao 25 cap) ∧ CV w ao (a0U.map str)) ∧ (∃ t v, w.cell? ⟨2, 0, none⟩ = some (.iface t v)) ∧ ∃ t v, w.cell? ⟨3, 0, none⟩ = some (.iface t v)
theorem Tab.grown {w w' : World} (T : Tab w) (G : w.grownBy w' none) : Tab w' := by
 obtain ⟨⟨ao, cap, h1, h2⟩, ⟨t, v, h3⟩, t', u, h4⟩ := T
 exact ⟨⟨ao, cap, G.cell h1 (by simp), h2.keptNone G⟩, ⟨t, v, G.cell h3 (by simp)⟩, t', u, G.cell h4 (by simp)⟩
theorem a83 {w w' : World} (h : Below w.heap.size w w') : w.grownBy w' none := ⟨h.os, h.tape, h.output, h.size, fun k hk _ => h.block k hk⟩
theorem a6b (n : Nat) : ∀ (L : List (List UInt8)) (_ : ∀ x ∈ L, x.length = n) (s : List UInt8), L.find? (fun x => x.isPrefixOf s) = if s.take n ∈ L then some (s.take n) else none
 | [], _, s => by simp
 | x :: L, h, s => by
  have hx : x.length = n := h x (List.mem_cons_self ..)
  have ih := a6b n L (fun y hy => h y (List.mem_cons_of_mem _ hy)) s
  by_cases hp : x.isPrefixOf s = true
  ·have e : x = s.take n := by
    have := List.prefix_iff_eq_take.1 (List.isPrefixOf_iff_prefix.1 hp)
    rw [hx] at this
    exact this
   rw [List.find?_cons_of_pos (p := fun x : List UInt8 => x.isPrefixOf s) hp, if_pos (by rw [← e]; exact List.mem_cons_self ..), ← e]
  ·rw [List.find?_cons_of_neg (p := fun x : List UInt8 => x.isPrefixOf s) hp, ih]
   have e : ¬ s.take n = x := fun e => hp (List.isPrefixOf_iff_prefix.2 (by rw [← e]; exact List.take_prefix ..))
   by_cases hm : s.take n ∈ L
   ·rw [if_pos hm, if_pos (List.mem_cons_of_mem _ hm)]
   ·rw [if_neg hm, if_neg (by simp [e, hm])]
def a12 (L : List (List UInt8)) (s : List UInt8) : List UInt8 := match L.find? (fun x => x.isPrefixOf s) with
 | some x => x
 | none => []
theorem aW4 (s : List UInt8) : K0 s = a12 a0U s := by
 unfold a12 a0U
 rw [List.find?_append, a6b 2 J6 (by decide), a6b 1 (a0R.map fun c => [c]) (by decide)]
 unfold K0
 by_cases h2 : s.take 2 ∈ J6
 ·rw [if_pos h2, if_pos h2]
  rfl
 ·rw [if_neg h2, if_neg h2, Option.none_or]
  cases s with
  | nil => decide
  | cons c r =>
   have e1 : (c :: r).take 1 = [c] := rfl
   rw [e1]
   by_cases hc : a0R.contains c = true
   ·rw [if_pos (by simpa using hc), if_pos (by simpa using hc)]
   ·rw [if_neg (by simpa using hc), if_neg (by simpa using hc)]
theorem as2 {L : List (List UInt8)} {K s : List UInt8} (h : K.isPrefixOf s = true) : a12 (K :: L) s = K := by
 unfold a12; rw [List.find?_cons_of_pos (p := fun x : List UInt8 => x.isPrefixOf s) h]
theorem a8v {L : List (List UInt8)} {K s : List UInt8} (h : K.isPrefixOf s = false) : a12 (K :: L) s = a12 L s := by
 unfold a12; rw [List.find?_cons_of_neg (p := fun x : List UInt8 => x.isPrefixOf s) (by rw [h]; simp)]
theorem aP6 {K s : List UInt8} (h : K.isPrefixOf s = true) : s.take K.length = K := (List.prefix_iff_eq_take.1 (List.isPrefixOf_iff_prefix.1 h)).symm
theorem a9S {K s : List UInt8} {a b : UInt8} : (a :: K).isPrefixOf (b :: s) = (a == b && K.isPrefixOf s) := rfl
theorem aW3 (s : ByteArray) (hs : s.size ≤ 140737488355328) (w : World) (T : Tab w) :
  Calls Tryz.prog 122 #[.string s] w fun e w' => e = .returned (str (K0 (sl s))) ∧ w.grownBy w' none := by
 obtain ⟨⟨ao, cap, h1, h2⟩, -⟩ := T
 rw [aW4]
 obtain ⟨ans, hans⟩ : ∃ ans, a12 a0U (sl s) = ans := ⟨_, rfl⟩
 rw [hans]
 have HA : Hid (a12 (a0U.drop 0) (sl s) = ans) := hans
 have HC : Hid (CV w ao (a0U.map str)) := h2
 have hlen : Hid (a0U.length = 25) := rfl
 have hmost : Hid (∀ K ∈ a0U, K.length ≤ 2) := by show ∀ K ∈ a0U, K.length ≤ 2; decide
 clear hans h2
 generalize a0U = L at *
 go_enter Tryz.func122, Tryz.ntmps122
 go_wp2; go_step3
 go_wp2; go_step3
 go_wp2
 clear h1
 go_loopw [8] (fun i wr => ∃ j : Nat, j ≤ 25 ∧ i = .int .i64 j ∧ Hid (a12 (L.drop j) (sl s) = ans) ∧ w.grownBy wr none) (fun i _ => 25 - (intOf i).toNat)
 case atStart => exact ⟨0, Nat.zero_le _, rfl, HA, World.grownBy.refl _ _⟩
 case round =>
  clear HA
  obtain ⟨j, hj, rfl, HI, G⟩ := hrel
  by_cases hlt : j < 25
  ·have hji : (j : Int) < 25 := by omega
   have hjl : j < L.length := by rw [hlen.out]; exact hlt
   have HD : Hid (L.drop j = L[j] :: L.drop (j + 1)) := List.drop_eq_getElem_cons hjl
   obtain ⟨bb, o, rfl, hc⟩ := HC.out.addr (k := j) (by rw [List.length_map]; exact hjl)
   have hcj := hc j (by rw [List.length_map]; exact hjl)
   rw [List.getElem_map] at hcj
   have hk2 := hmost.out L[j] (List.getElem_mem hjl)
   have c0 : wr.cell? ⟨bb, o + j, none⟩ = some (str L[j]) := G.cell hcj (by simp)
   clear hc hcj HC hmost hlen
   generalize L[j] = K at *
   obtain ⟨KB, hKB⟩ : ∃ KB : ByteArray, ⟨K.toArray⟩ = KB := ⟨_, rfl⟩
   have hsl : sl KB = K := by rw [← hKB]; rfl
   have hsz : KB.size = K.length := by rw [← o8, hsl]
   have HK : Hid (sl KB = K) := hsl
   have hst : str K = .string KB := by rw [str, hKB]
   rw [hst] at c0
   have hki : (KB.size : Int) ≤ 2 := by omega
   have HSZ : Hid (KB.size = K.length) := hsz
   have HG : Hid (w.grownBy wr none) := G
   clear hKB hsl hst G hsz
   go_wp2
   clear c0
   go_loopw [14] (fun i wr => ∃ q : Nat, q ≤ KB.size ∧ i = .int .i64 q ∧ Hid (K.isPrefixOf (sl s) = (K.drop q).isPrefixOf ((sl s).drop q)) ∧ w.grownBy wr none) (fun i _ => KB.size - (intOf i).toNat)
   case atStart => exact ⟨0, Nat.zero_le _, rfl, rfl, HG.out⟩
   case round =>
    clear HG
    obtain ⟨q, hq, rfl, HQ, G⟩ := hrel
    have HG : Hid (w.grownBy wr none) := G
    clear G
    have z0 : (0 : Int) ≤ (q : Int) := by omega
    by_cases hqk : q < KB.size
    ·have hqi : (q : Int) < (KB.size : Int) := by omega
     have HKD : Hid (K.drop q = KB[q] :: K.drop (q + 1)) := by show K.drop q = _; rw [← HK.out]; exact a0w KB q hqk
     by_cases hqs : q < s.size
     ·have hqsi : ¬ (s.size : Int) ≤ (q : Int) := by omega
      have hqs' : (q : Int) < (s.size : Int) := by omega
      have HSD : Hid ((sl s).drop q = s[q] :: (sl s).drop (q + 1)) := a0w s q hqs
      by_cases he : s[q] = KB[q]
      ·have heb : ((s[q].toNat : Int) != (KB[q].toNat : Int)) = false := by rw [he]; simp
       have HN : Hid (K.isPrefixOf (sl s) = (K.drop (q + 1)).isPrefixOf ((sl s).drop (q + 1))) := by
        show _ = _
        rw [HQ.out, HKD.out, HSD.out, a9S, he]
        simp
       clear HQ HKD HSD he
       go_wp2
       go_quiet (fail)
       go_wp2
       go_roundw
       case rel => exact ⟨q + 1, by omega, by go_num, HN, d3 HG.out (f4 _ _ none)⟩
       case measure => simp [intOf]; omega
      ·have heb : ((s[q].toNat : Int) != (KB[q].toNat : Int)) = true := by
        simp only [bne_iff_ne, ne_eq]
        intro e
        exact he (UInt8.toNat_inj.1 (by omega))
       have HN : Hid (K.isPrefixOf (sl s) = false) := by
        show _ = _
        rw [HQ.out, HKD.out, HSD.out, a9S]
        simp only [Bool.and_eq_false_iff, beq_eq_false_iff_ne]
        exact .inl (fun e => he e.symm)
       clear HQ HKD HSD he
       go_wp2
       go_quiet (fail)
       go_wp2
       go_roundw
       case rel => exact ⟨j + 1, by omega, by go_num, by show a12 (L.drop (j + 1)) (sl s) = ans; rw [← HI.out, HD.out, a8v HN.out], d3 HG.out (f4 _ _ none)⟩
       case measure => simp [intOf]; omega
     ·have hqsi : (s.size : Int) ≤ (q : Int) := by omega
      have HN : Hid (K.isPrefixOf (sl s) = false) := by
       show _ = _
       rw [HQ.out, HKD.out, List.drop_eq_nil_of_le («as» := sl s) (i := q) (by rw [o8]; omega)]
       rfl
      clear HQ HKD
      go_wp2
      go_quiet (fail)
      go_wp2
      go_roundw
      case rel => exact ⟨j + 1, by omega, by go_num, by show a12 (L.drop (j + 1)) (sl s) = ans; rw [← HI.out, HD.out, a8v HN.out], d3 HG.out (f4 _ _ none)⟩
      case measure => simp [intOf]; omega
    ·obtain rfl : q = KB.size := by omega
     have hqi : ¬ (KB.size : Int) < (KB.size : Int) := by omega
     have HN : Hid (K.isPrefixOf (sl s) = true) := by
      show _ = _
      rw [HQ.out, List.drop_eq_nil_of_le («as» := K) (by rw [HSZ.out]; exact Nat.le_refl _)]
      rfl
     have hle : KB.size ≤ s.size := by
      have := List.IsPrefix.length_le (List.isPrefixOf_iff_prefix.1 HN.out)
      rw [o8] at this
      rw [HSZ.out]
      exact this
     have hle' : (KB.size : Int) ≤ (s.size : Int) := by omega
     have HE : Hid (Value.string (s.extract 0 KB.size) = str ans) := by
      show _ = _
      rw [a0X, a2O, ← HI.out, HD.out, as2 HN.out, HSZ.out]
      congr 1
      simpa using aP6 HN.out
     clear HQ hqk
     go_wp2
     go_ret
     exact ⟨by rw [HE.out]; rfl, HG.out⟩
  ·obtain rfl : j = 25 := by omega
   have HE : Hid (([] : List UInt8) = ans) := by
    show _ = _
    rw [← HI.out, List.drop_eq_nil_of_le (by rw [hlen.out]; exact Nat.le_refl _)]
    rfl
   go_wp2
   rw [Exit.noGoto_ret]
   go_ret
   exact ⟨by rw [← HE.out]; rfl, G⟩

end Go.Proofs.YtklipelnjgpnjaaGreatDoor
