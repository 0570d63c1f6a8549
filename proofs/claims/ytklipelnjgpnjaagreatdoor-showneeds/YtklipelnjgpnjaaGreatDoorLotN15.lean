import Derived.Test.YtklipelnjgpnjaaGreatDoorLotN11
import Derived.Test.YtklipelnjgpnjaaGreatDoorLotN14
import Derived.Test.YtklipelnjgpnjaaGreatDoorLotN2
import Derived.Lib.IndexMore
namespace Go.Proofs.YtklipelnjgpnjaaGreatDoor
open Go.RowKit
set_option maxRecDepth 100000
def Tr.Typed : Tr → Prop
 | .leaf _ => True
 | .one x p => p.Typed ∧ M7 p.root.kind = L6 x.kind
 | .two x p q => p.Typed ∧ q.Typed ∧ M7 p.root.kind = L6 x.kind ∧ M7 q.root.kind = L6 x.kind
theorem a5U (x : Ng) (ps : List Pt) : (I6 x ps).truth = M7 x.kind := by
 unfold I6
 split
 ·split <;> rfl
 ·rfl
theorem a6H {x : Ng} {st ps s : List Pt} (ha : arG x.kind = some ps.length) (h : z6 x (st ++ ps) = .ok s) : s = st ++ [I6 x ps] ∧ ∀ p ∈ ps, p.truth = L6 x.kind := by
 unfold z6 at h
 rw [ha] at h
 simp only at h
 have hl : (st ++ ps).length - ps.length = st.length := by rw [List.length_append]; omega
 rw [hl, List.drop_left, List.take_left] at h
 split at h
 ·cases h
 ·split at h
  ·cases h
  ·rename_i hf
   cases h
   refine ⟨rfl, fun p hp => ?_⟩
   have hf0 : A9 x ps = 0 := Decidable.not_not.1 hf
   unfold A9 at hf0
   split at hf0
   ·cases hf0
   ·split at hf0
    ·rename_i hkE; exact absurd hf0 hkE
    ·rename_i hkE
     have hk0 : Z9 x.kind ps = 0 := Decidable.not_not.1 hkE
     unfold Z9 at hk0
     split at hk0
     ·rename_i hall
      simpa using List.all_eq_true.1 hall p hp
     ·split at hk0
      ·cases hk0
      ·cases hk0
theorem a6P {x : Ng} {st s : List Pt} {k : Nat} (h : j8 st k [x] = .ok s) : z6 x st = .ok s := by
 simp only [j8] at h
 cases hx : z6 x st with
 | error e => rw [hx] at h; cases h
 | ok s1 => rw [hx] at h; cases h; rfl
theorem a6Q {l m : List Ng} {st s : List Pt} {k : Nat} (h : j8 st k (l ++ m) = .ok s) : ∃ s1, j8 st k l = .ok s1 ∧ j8 s1 (k + l.length) m = .ok s := by
 rw [a4V] at h
 cases hl : j8 st k l with
 | error e => rw [hl] at h; cases h
 | ok s1 => rw [hl] at h; exact ⟨s1, rfl, h⟩
theorem a4Z : ∀ (T : Tr), T.Wf → ∀ (st s : List Pt) (k : Nat), j8 st k T.flat = .ok s → ∃ pt, s = st ++ [pt] ∧ pt.truth = M7 T.root.kind ∧ T.Typed
 | .leaf x, hw, st, s, k, h => by
  have hw : arG x.kind = some 0 := hw
  obtain ⟨h1, -⟩ := a6H (st := st) (ps := []) hw (by rw [List.append_nil]; exact a6P h)
  exact ⟨_, h1, a5U _ _, trivial⟩
 | .one x p, hw, st, s, k, h => by
  obtain ⟨ha, hp⟩ : arG x.kind = some 1 ∧ p.Wf := hw
  obtain ⟨s1, h1, h2⟩ := a6Q (l := p.flat) (m := [x]) h
  obtain ⟨a, rfl, ta, ya⟩ := a4Z p hp _ _ _ h1
  obtain ⟨h3, h4⟩ := a6H (st := st) (ps := [a]) ha (a6P h2)
  exact ⟨_, h3, a5U _ _, ya, by rw [← ta]; exact h4 a (by simp)⟩
 | .two x p q, hw, st, s, k, h => by
  obtain ⟨ha, hp, hq⟩ : arG x.kind = some 2 ∧ p.Wf ∧ q.Wf := hw
  obtain ⟨s2, h2, h3⟩ := a6Q (l := p.flat ++ q.flat) (m := [x]) h
  obtain ⟨s1, h1, h4⟩ := a6Q (l := p.flat) (m := q.flat) h2
  obtain ⟨a, rfl, ta, ya⟩ := a4Z p hp _ _ _ h1
  obtain ⟨b, rfl, tb, yb⟩ := a4Z q hq _ _ _ h4
  rw [List.append_assoc] at h3
  obtain ⟨h5, h6⟩ := a6H (st := st) (ps := [a, b]) ha (a6P h3)
  exact ⟨_, h5, a5U _ _, ya, yb, by rw [← ta]; exact h6 a (by simp), by rw [← tb]; exact h6 b (by simp)⟩
theorem a81 {t : List Ng} (h : (J4 t).2 = 0) {T : Tr} (hT : T.Wf) (hf : T.flat = t) : T.Typed ∧ M7 T.root.kind = true := by
 obtain ⟨q, hq, ht, -⟩ := a3v.1 h
 rw [← hf] at hq
 obtain ⟨pt, h1, h2, h3⟩ := a4Z T hT [] _ 0 hq
 have : q = pt := by simpa using h1
 exact ⟨h3, by rw [← h2, ← this]; exact ht⟩
def a6R (full : Bool) (row least : Int) : Bool := decide (row < if full = true then 12 else least)
theorem a3S (full : Bool) {row least : Int} (h : least ≤ 12) : a6R full row least = D2 full row least := by
 unfold a6R D2
 cases full with
 | false => simp
 | true =>
  simp only [if_true, Bool.true_and]
  by_cases h1 : row < 12
  ·simp [h1]
  ·rw [decide_eq_false h1, decide_eq_false (by omega)]
   rfl
theorem aQ2 {x : Ng} (h : M7 x.kind = false) : 5 ≤ d5 x := by
 unfold M7 at h
 have h6 : ¬ 6 ≤ x.kind := of_decide_eq_false h
 unfold d5
 rw [if_neg (by omega), if_neg (by omega), if_neg (by omega), if_neg (by omega)]
 split
 ·omega
 ·split
  ·omega
  ·split
   ·omega
   ·split
    ·omega
    ·split
     ·omega
     ·split
      ·omega
      ·split
       ·omega
       ·omega
theorem b0g (full : Bool) {x : Ng} (h : M7 x.kind = false) : a6R full (d5 x) 4 = D2 full (d5 x) 5 := by
 have h5 := aQ2 h
 rw [a3S full (by decide)]
 unfold D2
 rw [decide_eq_false (show ¬ d5 x < 4 by omega), decide_eq_false (show ¬ d5 x < 5 by omega)]
def ae8 (x : Ng) : Prop := x.n ≤ 4294967295 ∧ x.m ≤ 4294967295
def lpN (ts : List Tk) : Nat := ts.countP fun t => (t.kind == 5 || t.kind == 2) && t.text == [40]
theorem a8Y (t : Tk) (ts : List Tk) : lpN (t :: ts) = lpN ts + if isB (t :: ts) [40] = true then 1 else 0 := by
 unfold lpN
 rw [List.countP_cons]
 rfl
theorem a2f {r ts : List Tk} (h : r <:+ ts) : lpN r ≤ lpN ts := List.Sublist.countP_le h.sublist
theorem a2g (ts : List Tk) : lpN ts.tail ≤ lpN ts := a2f (List.tail_suffix ts)
theorem aB3 {ts : List Tk} (h : isB ts [40] = true) : lpN ts = lpN ts.tail + 1 := by
 cases ts with
 | nil => cases h
 | cons t r => rw [a8Y, if_pos h]; rfl
def a2s (want : Bool) (n : Nat) : Nat := if want = true then n + 1 else n
def Tr.br : Tr → Nat
 | .leaf _ => 0
 | .one x p => if x.kind = 3 then p.br else a2s (D2 false (d5 p.root) (d5 x)) p.br
 | .two x p q => a2s (D2 false (d5 p.root) (if d5 x = 4 then 5 else d5 x)) p.br + a2s (D2 false (d5 q.root) (d5 x + 1)) q.br
theorem a6q (row least : Int) (n : Nat) : a2s (D2 false row least) n = n + if row < least then 1 else 0 := by
 unfold a2s D2
 by_cases h : row < least <;> simp [h]
theorem ak5 {x : Ng} {p : Tr} (h : x.kind = 3) : (Tr.one x p).br = p.br := by rw [Tr.br, if_pos h]
theorem a7E {x : Ng} {p : Tr} (h : x.kind ≠ 3) : (Tr.one x p).br = p.br + if d5 p.root < d5 x then 1 else 0 := by rw [Tr.br, if_neg h, a6q]
def Rd (k : Int) (ts : List Tk) (ns : List (Nd × Nat)) (r : List Tk) : Prop := ∃ T : Tr, T.Wf ∧ T.flat = ns.map (·.1.g) ∧ lpN r + (T.br + if d5 T.root < k then 1 else 0) ≤ lpN ts
theorem Rd.mono {k k' : Int} {ts ts' r r' : List Tk} {ns : List (Nd × Nat)} (h : Rd k ts ns r) (hk : k' ≤ k) (ht : lpN ts ≤ lpN ts') (hr : lpN r' ≤ lpN r) : Rd k' ts' ns r' := by
 obtain ⟨T, h1, h2, h3⟩ := h
 refine ⟨T, h1, h2, ?_⟩
 by_cases hx : d5 T.root < k'
 ·rw [if_pos hx]; rw [if_pos (by omega)] at h3; omega
 ·rw [if_neg hx]; omega
theorem a16 {d : Nd} {p : Nat} {ts r : List Tk} (ha : arG d.g.kind = some 0) (hs : lpN r ≤ lpN ts) : Rd 12 ts [(d, p)] r := by
 refine ⟨.leaf d.g, ha, rfl, ?_⟩
 rw [show d5 (Tr.leaf d.g).root = 12 from a9E ha]
 simp [Tr.br]
 exact hs
theorem a6D {k : Nat} {ts r : List Tk} {d : Nd} (h : a0g k ts = .ok (d, r)) : d.kind = k := by
 unfold a0g at h
 split at h
 ·split at h
  ·cases h; rfl
  ·unfold q9 at h; cases h
 ·split at h
  ·split at h
   ·cases h; rfl
   ·unfold q9 at h; cases h
  ·unfold q9 at h; cases h
theorem aT2 {of at' side : Nat} {ts r : List Tk} {ns : List (Nd × Nat)} (h : a02 of at' side ts = .ok (ns, r)) : Rd 12 ts ns r := by
 have hs := a2f (a9V h).1.1
 unfold a02 at h
 split at h
 ·obtain ⟨⟨n, r1⟩, h1, h2⟩ := j0 h
  cases h2
  exact a16 rfl hs
 ·split at h
  ·obtain ⟨⟨n, r1⟩, h1, h2⟩ := j0 h
   obtain ⟨r2, h3, h4⟩ := j0 h2
   obtain ⟨⟨m, r3⟩, h5, h6⟩ := j0 h4
   cases h6
   exact a16 rfl hs
  ·split at h
   ·obtain ⟨⟨n, r1⟩, h1, h2⟩ := j0 h
    cases h2
    refine a16 ?_ hs
    show arG (n.kind : Int) = some 0
    rw [a6D h1]
    rfl
   ·split at h
    ·obtain ⟨⟨n, r1⟩, h1, h2⟩ := j0 h
     obtain ⟨r2, h3, h4⟩ := j0 h2
     obtain ⟨⟨m, r3⟩, h5, h6⟩ := j0 h4
     cases h6
     refine a16 ?_ hs
     show arG (n.kind : Int) = some 0
     rw [a6D h1]
     rfl
    ·unfold q9 at h; cases h
theorem a9X {of at' : Nat} {ts r : List Tk} {ns : List (Nd × Nat)} (h : a1i of at' ts = .ok (ns, r)) : Rd 12 ts ns r :=
 (aT2 h).mono (Int.le_refl _) (a2f (a3K ts)) (Nat.le_refl _)
theorem b0r {ts r : List Tk} {ns : List (Nd × Nat)} (hk : (hdT ts).kind = 2) (h : L7 ts = .ok (ns, r)) : Rd 12 ts ns r := by
 have hs := a2f (a6U hk h).1.1
 unfold L7 at h
 split at h
 ·cases h; exact a16 rfl hs
 ·split at h
  ·cases h; exact a16 rfl hs
  ·split at h
   ·cases h; exact a16 rfl hs
   ·split at h
    ·obtain ⟨⟨n, r1⟩, h1, h2⟩ := j0 h
     cases h2
     exact a16 rfl hs
    ·split at h
     ·exact a9X h
     ·unfold q9 at h; cases h
def RdO (k : Int) (rec : Nat → List Tk → Out) : Prop := ∀ nest ts ns r, rec nest ts = .ok (ns, r) → Rd k ts ns r
theorem aD2 {rec : Nat → List Tk → Out} (hr : RdO 1 rec) {nest of at' : Nat} {ts r : List Tk} {ns : List (Nd × Nat)} (h : T2 rec nest of at' ts = .ok (ns, r)) : Rd 12 ts ns r := by
 unfold T2 at h
 split at h
 ·obtain ⟨-, h⟩ := a00 h
  obtain ⟨⟨n1, r1⟩, h1, h2⟩ := j0 h
  obtain ⟨⟨n2, r2⟩, h3, h4⟩ := j0 h2
  cases h4
  obtain ⟨T, w1, w2, w3⟩ := hr _ _ _ _ h1
  have s1 := a2f (a4O h3).1
  have s2 := a2g ts
  refine ⟨.one ({ ndK 3 with of := of, size := n2 } : Nd).g T, ⟨rfl, w1⟩, ?_, ?_⟩
  ·simp [Tr.flat, w2]
  ·have hb : (Tr.one ({ ndK 3 with of := of, size := n2 } : Nd).g T).br = T.br := by
    exact ak5 rfl
   have hrow : d5 (Tr.one ({ ndK 3 with of := of, size := n2 } : Nd).g T).root = 12 := rfl
   rw [hb, hrow, if_neg (by decide)]
   have e2 : lpN (n2, r2).snd = lpN r2 := rfl
   dsimp only at s1
   omega
 ·split at h
  ·unfold q9 at h; cases h
  ·split at h
   ·obtain ⟨⟨n, r1⟩, h1, h2⟩ := j0 h
    cases h2
    exact a16 rfl (Nat.le_trans (a2f (a1x h1).1) (a2g ts))
   ·split at h
    ·exact a9X h
    ·cases h
     exact a16 rfl (Nat.le_refl _)
theorem aL3 {rec : Nat → List Tk → Out} (hr : RdO 1 rec) {nest : Nat} {ts r : List Tk} {ns : List (Nd × Nat)} (h : L3 rec nest ts = .ok (ns, r)) : Rd 12 ts ns r := by
 unfold L3 at h
 split at h
 ·cases h
  exact a16 rfl (a2g ts)
 ·split at h
  ·rename_i hb
   obtain ⟨-, h⟩ := a00 h
   obtain ⟨⟨n1, r1⟩, h1, h2⟩ := j0 h
   obtain ⟨r2, h3, h4⟩ := j0 h2
   cases h4
   obtain ⟨T, w1, w2, w3⟩ := hr _ _ _ _ h1
   have s1 := a2f (a1K h3).1
   have s2 := aB3 hb
   refine ⟨T, w1, w2, ?_⟩
   dsimp only at s1
   split <;> omega
  ·split at h
   ·unfold q9 at h; cases h
   ·rename_i hk
    split at h
    ·exact (aD2 hr h).mono (Int.le_refl _) (a2g ts) (Nat.le_refl _)
    ·exact b0r (Decidable.of_not_not hk) h
theorem aO5 {o : Nat} : arG ({ ndK 6 with op := o } : Nd).g.kind = some 2 ∧ d5 ({ ndK 6 with op := o } : Nd).g = 4 := ⟨rfl, rfl⟩
theorem M0 {α : Type} {c : Prop} [Decidable c] {a b : α} {o : Option α} (h : (if c then some a else o) = some b) : a = b ∨ o = some b := by
 by_cases hc : c
 ·rw [if_pos hc] at h; exact .inl (Option.some.inj h)
 ·rw [if_neg hc] at h; exact .inr h
theorem aj2 {k : Nat} {x : List UInt8} {nd : Nd} (h : x7 k x = some nd) : arG nd.g.kind = some 2 ∧ d5 nd.g = (k : Int) := by
 unfold x7 at h
 by_cases h1 : k = 1
 ·rw [if_pos h1] at h
  subst h1
  rcases M0 h with rfl | h
  ·exact ⟨rfl, rfl⟩
  ·cases h
 rw [if_neg h1] at h
 by_cases h2 : k = 2
 ·rw [if_pos h2] at h
  subst h2
  rcases M0 h with rfl | h
  ·exact ⟨rfl, rfl⟩
  ·cases h
 rw [if_neg h2] at h
 by_cases h4 : k = 4
 ·rw [if_pos h4] at h
  subst h4
  obtain ⟨o, -, ho⟩ := Option.map_eq_some_iff.1 h
  rw [← ho]
  exact aO5
 rw [if_neg h4] at h
 by_cases h5 : k = 5
 ·rw [if_pos h5] at h
  subst h5
  rcases M0 h with rfl | h
  ·exact ⟨rfl, rfl⟩
  ·cases h
 rw [if_neg h5] at h
 by_cases h6 : k = 6
 ·rw [if_pos h6] at h
  subst h6
  rcases M0 h with rfl | h
  ·exact ⟨rfl, rfl⟩
  ·cases h
 rw [if_neg h6] at h
 by_cases h7 : k = 7
 ·rw [if_pos h7] at h
  subst h7
  rcases M0 h with rfl | h
  ·exact ⟨rfl, rfl⟩
  ·cases h
 rw [if_neg h7] at h
 by_cases h8 : k = 8
 ·rw [if_pos h8] at h
  subst h8
  rcases M0 h with rfl | h
  ·exact ⟨rfl, rfl⟩
  ·rcases M0 h with rfl | h
   ·exact ⟨rfl, rfl⟩
   ·cases h
 rw [if_neg h8] at h
 by_cases h9 : k = 9
 ·rw [if_pos h9] at h
  subst h9
  rcases M0 h with rfl | h
  ·exact ⟨rfl, rfl⟩
  ·rcases M0 h with rfl | h
   ·exact ⟨rfl, rfl⟩
   ·cases h
 rw [if_neg h9] at h
 by_cases h10 : k = 10
 ·rw [if_pos h10] at h
  subst h10
  rcases M0 h with rfl | h
  ·exact ⟨rfl, rfl⟩
  ·rcases M0 h with rfl | h
   ·exact ⟨rfl, rfl⟩
   ·rcases M0 h with rfl | h
    ·exact ⟨rfl, rfl⟩
    ·cases h
 rw [if_neg h10] at h
 cases h
theorem a9e {k : Nat} {ts : List Tk} {nd : Nd} (h : opT k ts = some nd) : arG nd.g.kind = some 2 ∧ d5 nd.g = (k : Int) := by
 unfold opT at h
 by_cases hk : (hdT ts).kind = 5 ∨ (hdT ts).kind = 2
 ·rw [if_pos hk] at h
  exact aj2 h
 ·rw [if_neg hk] at h
  cases h
theorem a8U {rec : List Tk → Out} {k : Nat} (hr : ∀ ts ns r, rec ts = .ok (ns, r) → Rd ((k : Int) + 1) ts ns r) (top : List Tk) : ∀ (f : Nat) (ns : List (Nd × Nat)) (ts : List Tk) (ms : List (Nd × Nat)) (r : List Tk),
  Rd (if k = 4 then 5 else (k : Int)) top ns ts → x8 rec k f ns ts = .ok (ms, r) → Rd k top ms r
 | 0, ns, ts, ms, r, h0, h => by
  cases h
  exact h0.mono (by split <;> omega) (Nat.le_refl _) (Nat.le_refl _)
 | f + 1, ns, ts, ms, r, h0, h => by
  unfold x8 at h
  split at h
  ·cases h
   exact h0.mono (by split <;> omega) (Nat.le_refl _) (Nat.le_refl _)
  ·rename_i nd hop
   obtain ⟨⟨n1, r1⟩, h1, h2⟩ := j0 h
   obtain ⟨ha, hrow⟩ := a9e hop
   obtain ⟨T, w1, w2, w3⟩ := h0
   obtain ⟨U, u1, u2, u3⟩ := hr _ _ _ h1
   have s2 := a2g ts
   have hR : ∃ V : Tr, V.Wf ∧ V.flat = (ns ++ n1 ++ [(nd, (hdT ts).pos)]).map (·.1.g) ∧ d5 V.root = (k : Int) ∧ lpN r1 + V.br ≤ lpN top := by
    refine ⟨.two nd.g T U, ⟨ha, w1, u1⟩, ?_, hrow, ?_⟩
    ·simp [Tr.flat, w2, u2]
    ·have hb : (Tr.two nd.g T U).br = (T.br + if d5 T.root < (if (k : Int) = 4 then 5 else (k : Int)) then 1 else 0) + (U.br + if d5 U.root < (k : Int) + 1 then 1 else 0) := by
      rw [Tr.br, a6q, a6q, hrow]
     rw [hb]
     by_cases h4 : k = 4
     ·subst h4
      simp only [if_true] at w3
      simp only [show ((4 : Nat) : Int) = 4 from rfl, if_true] at *
      omega
     ·rw [if_neg h4] at w3
      rw [if_neg (by omega : ¬ (k : Int) = 4)]
      omega
   obtain ⟨V, v1, v2, v3, v4⟩ := hR
   dsimp only at h2
   split at h2
   ·cases h2
    exact ⟨V, v1, v2, by rw [v3, if_neg (by omega)]; omega⟩
   ·rename_i h4
    refine a8U hr top f _ _ _ _ ⟨V, v1, v2, ?_⟩ h2
    rw [if_neg h4, v3, if_neg (by omega)]
    omega
theorem a2y : ∀ (f k nest : Nat) (ts : List Tk) (ns : List (Nd × Nat)) (r : List Tk), k ≤ 12 → d7 f k nest ts = .ok (ns, r) → Rd k ts ns r
 | 0, k, nest, ts, ns, r, _, h => by cases h
 | f + 1, k, nest, ts, ns, r, hk, h => by
  rw [T4] at h
  unfold N0 at h
  split at h
  ·rename_i h3
   obtain ⟨rfl, -⟩ := h3
   obtain ⟨-, h⟩ := a00 h
   obtain ⟨⟨n1, r1⟩, h1, h2⟩ := j0 h
   cases h2
   obtain ⟨T, w1, w2, w3⟩ := a2y f 3 _ _ _ _ hk h1
   have s2 := a2g ts
   refine ⟨.one (ndK 9).g T, ⟨rfl, w1⟩, by simp [Tr.flat, w2], ?_⟩
   have hb : (Tr.one (ndK 9).g T).br = T.br + if d5 T.root < ((3 : Nat) : Int) then 1 else 0 := a7E (by decide)
   have hrow : d5 (Tr.one (ndK 9).g T).root = 3 := rfl
   rw [hb, hrow, if_neg (by decide : ¬ (3 : Int) < ((3 : Nat) : Int))]
   have e2 : lpN (n1, r1).snd = lpN r1 := rfl
   omega
  ·split at h
   ·rename_i h3
    obtain ⟨rfl, -⟩ := h3
    obtain ⟨-, h⟩ := a00 h
    obtain ⟨⟨n1, r1⟩, h1, h2⟩ := j0 h
    cases h2
    obtain ⟨T, w1, w2, w3⟩ := a2y f 11 _ _ _ _ hk h1
    have s2 := a2g ts
    refine ⟨.one (ndK 5).g T, ⟨rfl, w1⟩, by simp [Tr.flat, w2], ?_⟩
    have hb : (Tr.one (ndK 5).g T).br = T.br + if d5 T.root < ((11 : Nat) : Int) then 1 else 0 := a7E (by decide)
    have hrow : d5 (Tr.one (ndK 5).g T).root = 11 := rfl
    rw [hb, hrow, if_neg (by decide : ¬ (11 : Int) < ((11 : Nat) : Int))]
    have e2 : lpN (n1, r1).snd = lpN r1 := rfl
    omega
   ·split at h
    ·rename_i h3
     have := a2y f (k + 1) _ _ _ _ (by omega) h
     exact this.mono (by omega) (Nat.le_refl _) (Nat.le_refl _)
    ·split at h
     ·rename_i h12
      subst h12
      exact aL3 (fun nest ts ns r h => a2y f 1 nest ts ns r (by decide) h) h
     ·obtain ⟨⟨n1, r1⟩, h1, h2⟩ := j0 h
      have h0 := a2y f (k + 1) _ _ _ _ (by omega) h1
      refine a8U (fun ts ns r h => a2y f (k + 1) nest ts ns r (by omega) h) ts _ _ _ _ _ ?_ h2
      exact h0.mono (by split <;> omega) (Nat.le_refl _) (Nat.le_refl _)
theorem a5G {T U : Tr} (h : T.flat = U.flat) : T.root = U.root := by
 obtain ⟨l, h1⟩ := T.flat_last
 obtain ⟨m, h2⟩ := U.flat_last
 rw [h1, h2] at h
 simpa using (List.append_inj' h rfl).2
theorem aX1 {r s P Q : List Ng} (h : r ++ s = P ++ Q) (h2 : s9 0 s = some 1) (hQ : s9 0 Q = some 1) : r = P ∧ s = Q := by
 rcases List.append_eq_append_iff.1 h with ⟨c, h1, h3⟩ | ⟨c, h1, h3⟩
 ·by_cases hc : c = []
  ·subst hc; simp at h1 h3; exact ⟨h1.symm, h3⟩
  ·rw [h3] at h2
   have := ac4 h2 hc
   have := ac5 hQ
   omega
 ·by_cases hc : c = []
  ·subst hc; simp at h1 h3; exact ⟨h1, h3.symm⟩
  ·rw [h3] at hQ
   have := ac4 hQ hc
   have := ac5 h2
   omega
theorem a49 : ∀ (T U : Tr), T.Wf → U.Wf → T.flat = U.flat → T = U
 | .leaf x, U, hT, hU, h => by
  have hr := a5G h
  have hT : arG x.kind = some 0 := hT
  cases U with
  | leaf y => rw [show x = y from hr]
  | one y p =>
   have hr : x = y := hr
   rw [hr, hU.1] at hT
   cases hT
  | two y p q =>
   have hr : x = y := hr
   rw [hr, hU.1] at hT
   cases hT
 | .one x p, U, hT, hU, h => by
  have hr := a5G h
  cases U with
  | leaf y =>
   have hr : x = y := hr
   have hU : arG y.kind = some 0 := hU
   rw [← hr, hT.1] at hU
   cases hU
  | one y q =>
   have hr : x = y := hr
   have h1 : p.flat ++ [x] = q.flat ++ [y] := h
   rw [a49 p q hT.2 hU.2 (List.append_inj' h1 rfl).1, hr]
  | two y q s =>
   have hr : x = y := hr
   have h1 := hT.1
   rw [hr, hU.1] at h1
   cases h1
 | .two x p q, U, hT, hU, h => by
  have hr := a5G h
  cases U with
  | leaf y =>
   have hr : x = y := hr
   have hU : arG y.kind = some 0 := hU
   rw [← hr, hT.1] at hU
   cases hU
  | one y s =>
   have hr : x = y := hr
   have h1 := hT.1
   rw [hr, hU.1] at h1
   cases h1
  | two y r s =>
   have hr : x = y := hr
   have h1 : p.flat ++ q.flat ++ [x] = r.flat ++ s.flat ++ [y] := h
   obtain ⟨h2, h3⟩ := aX1 (List.append_inj' h1 rfl).1 (Tr.flat_left hT.2.2) (Tr.flat_left hU.2.2)
   rw [a49 p r hT.2.1 hU.2.1 h2, a49 q s hT.2.2 hU.2.2 h3, hr]
theorem aO1 {ts : List Tk} {ns : List (Nd × Nat)} (h : a14 ts = .ok ns) {T : Tr} (hw : T.Wf) (hf : ns.map (·.1.g) = T.flat) : T.br ≤ lpN ts := by
 unfold a14 at h
 obtain ⟨⟨n1, r1⟩, h1, h2⟩ := j0 h
 obtain ⟨U, u1, u2, u3⟩ := a2y _ 1 _ _ _ _ (by decide) h1
 have hn : n1 = ns := by
  dsimp only at h2
  split at h2
  ·cases h2; rfl
  ·unfold q9 at h2; cases h2
 subst hn
 have := a49 U T u1 hw (u2.trans hf)
 subst this
 omega
def lbN (s : List UInt8) : Nat := s.count 40
theorem a8J {s : List UInt8} (h : ∀ c ∈ s, c ≠ 40) : lbN s = 0 := List.count_eq_zero.2 fun hm => h 40 hm rfl
theorem E7 (s t : List UInt8) : lbN (s ++ t) = lbN s + lbN t := List.count_append
theorem a4m {n : Nat} (h : n < 10 ^ 20) : lbN (dec n) = 0 := a8J fun c hc e => by
 have h1 := a5s n h c hc
 rw [e] at h1
 exact absurd h1 (by decide)
theorem a4n {c : Prop} [Decidable c] {a b : List UInt8} (ha : lbN a = 0) (hb : lbN b = 0) : lbN (if c then a else b) = 0 := by
 by_cases h : c
 ·rw [if_pos h]; exact ha
 ·rw [if_neg h]; exact hb
theorem a8I (k : Int) : lbN (t7 k) = 0 := by
 unfold t7
 repeat refine a4n rfl ?_
 rfl
theorem az0 (k : Int) : lbN (a0P k) = 0 := by
 unfold a0P
 repeat refine a4n rfl ?_
 rfl
theorem a8K {s : List UInt8} {k n : Nat} (h : o6 s = .ok (k, s, n)) (hk : k ≠ 5) : lbN s = 0 := by
 have key : ∀ p : UInt8 → Bool, p 40 = false → s.takeWhile p = s → lbN s = 0 := fun p hp hs => a8J fun c hc e => by
  have h1 : c ∈ s.takeWhile p := by rw [hs]; exact hc
  have h2 := a2D p s h1
  rw [e, hp] at h2
  cases h2
 unfold o6 at h
 split at h
 ·simp only [Except.ok.injEq, Prod.mk.injEq] at h
  exact key m7 (by decide) h.2.1
 ·split at h
  ·split at h
   ·simp only [Except.ok.injEq, Prod.mk.injEq] at h
    exact key t8 (by decide) h.2.1
   ·split at h
    ·cases h
    ·simp only [Except.ok.injEq, Prod.mk.injEq] at h
     exact key j9 (by decide) h.2.1
  ·split at h
   ·simp only [Except.ok.injEq, Prod.mk.injEq] at h
    exact key j9 (by decide) h.2.1
   ·split at h
    ·cases h
    ·simp only [Except.ok.injEq, Prod.mk.injEq] at h
     exact absurd h.1.symm hk
theorem ay9 (x : Ng) : lbN (I0 x) = 0 := by
 unfold I0
 split
 ·exact a8K (aa6 (a3I 8 _ (a06 x))) (by decide)
 ·exact a8K (ac2 (by rw [List.length_take, a06]; rfl)) (by decide)
def a1F (x : Ng) : Prop := x.n < 10 ^ 20 ∧ x.m < 10 ^ 20 ∧ x.bits.toNat < 10 ^ 20 ∧ (x.kind = 3 → x.size.toNat < 10 ^ 20)
theorem a8H {x : Ng} (h : a1F x) : lbN (x6 x) = 0 := by
 have h1 := a4m h.1
 have h2 := a4m h.2.1
 have h3 := a4m h.2.2.1
 have h4 := a8I x.of
 have h5 := az0 x.side
 have h6 := ay9 x
 unfold x6
 split
 ·exact h1
 ·split
  ·rfl
  ·split
   ·split <;> rfl
   ·split
    ·exact h4
    ·split
     ·rw [E7, h1]; rfl
     ·split
      ·rw [E7, E7, h4, h1]; rfl
      ·split
       ·rw [E7, E7, h5, h6]; rfl
       ·split
        ·rw [E7, E7, E7, E7, h5, h6, h3]; rfl
        ·have e1 : lbN (if x.of = 0 then [] else t7 x.of ++ [32]) = 0 := by
          split
          ·rfl
          ·rw [E7, h4]; rfl
         have e2 : lbN (if x.n = x.m then [112, 111, 114, 116, 32] ++ dec x.n else [112, 111, 114, 116, 114, 97, 110, 103, 101, 32] ++ dec x.n ++ [45] ++ dec x.m) = 0 := by
          split
          ·rw [E7, h1]; rfl
          ·rw [E7, E7, E7, h1, h2]; rfl
         rw [E7, E7, e1, h5, e2]
theorem az1 (x : Ng) : lbN (U4 x) = 0 := by
 have h1 : ∀ k : Int, lbN (a2u k) = 0 := fun k => by
  unfold a2u
  repeat refine a4n rfl ?_
  rfl
 have h2 : ∀ k : Int, lbN (a2n k) = 0 := fun k => by
  unfold a2n
  repeat refine a4n rfl ?_
  rfl
 unfold U4
 split
 ·rfl
 ·split
  ·rfl
  ·split
   ·exact h1 _
   ·exact h2 _
theorem az2 {x : Ng} (h : a1F x) (hk : x.kind = 3) : lbN (U5 x.size) = 0 := by
 unfold U5
 split
 ·rfl
 ·rw [E7, a4m (h.2.2.2 hk)]; rfl
theorem a5X (want : Bool) (r : List UInt8 × Nat) : lbN (y9 want r).1 = a2s want (lbN r.1) := by
 unfold y9 a2s
 split
 ·show lbN ([40] ++ r.1 ++ [41]) = _
  rw [E7, E7]
  show 1 + lbN r.1 + 0 = _
  omega
 ·rfl
theorem a4o : ∀ T : Tr, (∀ x ∈ T.flat, a1F x) → lbN (T.txt false).1 = T.br
 | .leaf x, h => a8H (h x (by simp [Tr.flat]))
 | .one x p, h => by
  have hp := a4o p (fun y hy => h y (by simp [Tr.flat, hy]))
  have hx := h x (by simp [Tr.flat])
  rw [Tr.txt, Tr.br]
  split
  ·rename_i hk
   show lbN (t7 x.of ++ [91] ++ (p.txt false).1 ++ U5 x.size ++ [93]) = _
   rw [E7, E7, E7, E7, a8I, az2 hx hk, hp]
   show 0 + 0 + p.br + 0 + 0 = _
   omega
  ·show lbN ((if x.kind = 9 then [110, 111, 116, 32] else [45]) ++ (y9 _ _).1) = _
   rw [E7, a5X, hp]
   have : lbN (if x.kind = 9 then [110, 111, 116, 32] else [45]) = 0 := by split <;> rfl
   omega
 | .two x p q, h => by
  have hp := a4o p (fun y hy => h y (by simp [Tr.flat, hy]))
  have hq := a4o q (fun y hy => h y (by simp [Tr.flat, hy]))
  rw [Tr.txt, Tr.br]
  show lbN ((y9 _ _).1 ++ [32] ++ U4 x ++ [32] ++ (y9 _ _).1) = _
  rw [E7, E7, E7, E7, a5X, a5X, hp, hq, az1]
  show _ + 0 + 0 + 0 + _ = _
  omega
theorem a66 : ∀ (k p : Nat) (s : List UInt8) (ts : List Tk), a0u k p s = .ok ts → lpN ts ≤ lbN s
 | 0, p, s, ts, h => by cases h; exact Nat.zero_le _
 | k + 1, p, [], ts, h => by cases h; exact Nat.zero_le _
 | k + 1, p, c :: r, ts, h => by
  unfold a0u at h
  split at h
  ·have := a66 k _ _ _ h
   have hc : lbN r ≤ lbN (c :: r) := List.Sublist.count_le _ (List.sublist_cons_self c r)
   omega
  ·split at h
   ·cases h
   ·rename_i q t n ht
    split at h
    ·cases h
    ·rename_i us hu
     cases h
     have h1 := a66 k _ _ _ hu
     have h2 := (a0l ht).2.1
     have h3 : lbN (c :: r) = lbN t + lbN ((c :: r).drop t.length) := by
      rw [← E7]
      conv => rhs; arg 1; arg 1; rw [h2]
      rw [List.take_append_drop]
     rw [a8Y, h3]
     by_cases hb : isB (⟨q, p, t, n⟩ :: us) [40] = true
     ·rw [if_pos hb]
      have : t = [40] := by
       unfold isB at hb
       have := (Bool.and_eq_true_iff.1 hb).2
       exact beq_iff_eq.1 this
      have h4 : lbN t = 1 := by rw [this]; rfl
      omega
     ·rw [if_neg hb]
      omega
theorem az9 {s : List UInt8} {ts : List Tk} (h : O0 s = .ok ts) : lpN ts ≤ lbN s := by
 unfold O0 at h
 split at h
 ·cases h
 ·exact a66 _ _ _ _ h
theorem a4d {s t : List UInt8} (h : t ≠ []) : (s ++ t).getLast? = t.getLast? := by
 rw [List.getLast?_append]
 cases ht : t.getLast? with
 | none => exact absurd (List.getLast?_eq_none_iff.1 ht) h
 | some a => rfl
def a0S (s : List UInt8) : Prop := s.getLast? ≠ some 40
theorem a0S.app {s t : List UInt8} (hs : a0S s) (ht : a0S t) : a0S (s ++ t) := by
 by_cases h : t = []
 ·rw [h, List.append_nil]; exact hs
 ·unfold a0S
  rw [a4d h]
  exact ht
theorem a7W {s : List UInt8} (h : lbN s = 0) : a0S s := fun e => by
 have := List.count_eq_zero.1 h
 exact this (List.mem_of_getLast? e)
theorem a7X (want : Bool) {r : List UInt8 × Nat} (h : a0S r.1) : a0S (y9 want r).1 := by
 unfold y9
 split
 ·show ([40] ++ r.1 ++ [41]).getLast? ≠ some 40
  rw [a4d (by simp)]
  decide
 ·exact h
theorem a5z : ∀ T : Tr, (∀ x ∈ T.flat, a1F x) → a0S (T.txt false).1
 | .leaf x, h => a7W (a8H (h x (by simp [Tr.flat])))
 | .one x p, h => by
  have hp := a5z p (fun y hy => h y (by simp [Tr.flat, hy]))
  rw [Tr.txt]
  split
  ·show (_ ++ [93]).getLast? ≠ some 40
   rw [a4d (by simp)]
   decide
  ·refine a0S.app (a7W ?_) (a7X _ hp)
   split <;> rfl
 | .two x p q, h => by
  have hq := a5z q (fun y hy => h y (by simp [Tr.flat, hy]))
  rw [Tr.txt]
  refine a0S.app ?_ (a7X _ hq)
  show (_ ++ [32]).getLast? ≠ some 40
  rw [a4d (by simp)]
  decide
theorem aH3 {T : Tr} (h : ∀ x ∈ T.flat, a1F x) {i : Nat} (hi : (T.txt false).1[i]? = some 40) : i + 1 < (T.txt false).1.length := by
 have h1 := a5z T h
 obtain ⟨hl, hv⟩ := List.getElem?_eq_some_iff.1 hi
 apply Classical.byContradiction
 intro hn
 apply h1
 rw [List.getLast?_eq_getElem?, show (T.txt false).1.length - 1 = i by omega]
 exact hi
theorem aH7 {T : Tr} (hw : T.Wf) (h : ∀ x ∈ T.flat, a1F x) {i k : Nat} (hi : (T.txt false).1[i]? = some 40) (hk : i + 1 < k) {ns : List (Nd × Nat)}
  (hp : U2 ((T.txt false).1.take i ++ ((T.txt false).1.take (k - 1)).drop (i + 1) ++ (T.txt false).1.drop k) = .ok ns) : ns.map (·.1.g) ≠ T.flat := by
 intro hf
 have hb := a4o T h
 generalize (T.txt false).1 = s at *
 obtain ⟨ts, h1, h2⟩ := j0 hp
 have h3 := aO1 h2 hw hf
 have h4 := az9 h1
 obtain ⟨hl, hv⟩ := List.getElem?_eq_some_iff.1 hi
 have e1 : lbN s = lbN (s.take i) + (1 + lbN (s.drop (i + 1))) := by
  conv => lhs; rw [← List.take_append_drop i s, List.drop_eq_getElem_cons hl, hv]
  rw [E7]
  congr 1
  show List.count 40 (40 :: s.drop (i + 1)) = 1 + _
  rw [List.count_cons_self]
  show lbN _ + 1 = 1 + lbN _
  omega
 have e2 : lbN (s.drop (i + 1)) = lbN ((s.take (k - 1)).drop (i + 1)) + lbN (s.drop (k - 1)) := by
  rw [← E7]
  congr 1
  conv => lhs; rw [← List.take_append_drop (k - 1) s]
  rw [List.drop_append]
  congr 1
  by_cases hs : k - 1 ≤ s.length
  ·rw [List.length_take, Nat.min_eq_left hs, show i + 1 - (k - 1) = 0 by omega]; rfl
  ·have h0 : s.drop (k - 1) = [] := List.drop_of_length_le (by omega)
   rw [h0, List.drop_nil]
 have e3 : lbN (s.drop k) ≤ lbN (s.drop (k - 1)) := by
  have : s.drop k = (s.drop (k - 1)).drop 1 := by rw [List.drop_drop]; congr 1; omega
  rw [this]
  exact List.Sublist.count_le _ (List.drop_sublist _ _)
 rw [E7, E7] at h4
 omega
theorem au7 (b : UInt8) (s : List UInt8) (h : b ∉ s) : Lib.index s [b] = -1 := by
 induction s with
 | nil => rfl
 | cons c r ih =>
  have hc : (b == c) = false := by rw [beq_eq_false_iff_ne]; intro e; exact h (by rw [e]; simp)
  rw [Lib.index, show ([b] : List UInt8).isPrefixOf (c :: r) = false by simp [List.isPrefixOf, hc], ih (fun e => h (by simp [e]))]
  rfl
theorem au6 (b : UInt8) (x y : List UInt8) (h : b ∉ x) : Lib.index (x ++ b :: y) [b] = (x.length : Int) := by
 induction x with
 | nil => simp [Lib.index, List.isPrefixOf]
 | cons c r ih =>
  have hc : (b == c) = false := by rw [beq_eq_false_iff_ne]; intro e; exact h (by rw [e]; simp)
  rw [List.cons_append, Lib.index, show ([b] : List UInt8).isPrefixOf (c :: (r ++ b :: y)) = false by simp [List.isPrefixOf, hc], ih (fun e => h (by simp [e]))]
  have : ((r.length : Int) == -1) = false := by rw [beq_eq_false_iff_ne]; omega
  rw [this]
  simp
theorem an4 (b : UInt8) (s : List UInt8) : (Lib.cut s [b] = (s, [], false) ∧ j4 b s = [s]) ∨ (∃ x y, Lib.cut s [b] = (x, y, true) ∧ j4 b s = x :: j4 b y ∧ x.length + y.length + 1 = s.length) := by
 by_cases h : b ∈ s
 ·right
  obtain ⟨x, y, rfl, hx⟩ := List.eq_append_cons_of_mem h
  refine ⟨x, y, ?_, ?_, ?_⟩
  ·rw [Lib.cut, au6 b x y hx, if_pos (by omega)]
   simp only [Int.toNat_natCast, List.take_left, List.length_cons, List.length_nil]
   rw [← List.drop_drop, List.drop_left]
   rfl
  ·unfold j4
   rw [aV5 b [] x y hx]
   rfl
  ·simp
   omega
 ·left
  refine ⟨?_, ?_⟩
  ·rw [Lib.cut, au7 b s h, if_neg (by decide)]
  ·unfold j4
   rw [aV6 b [] s h]
   rfl
theorem a8w (s : List UInt8) : Lib.index s [58, 58] = a5I (a09 s) := by
 induction s with
 | nil => rfl
 | cons a r ih =>
  rw [Lib.index, a09, ih]
  by_cases h : a = 58 ∧ r.head? = some 58
  ·rw [if_pos h]
   obtain ⟨rfl, h2⟩ := h
   cases r with
   | nil => cases h2
   | cons c r =>
    simp only [List.head?_cons, Option.some.injEq] at h2
    subst h2
    rw [if_pos (by simp [List.isPrefixOf])]
    rfl
  ·rw [if_neg h]
   have hp : ([58, 58] : List UInt8).isPrefixOf (a :: r) = false := by
    cases r with
    | nil => simp [List.isPrefixOf]
    | cons c r =>
     simp only [List.head?_cons, Option.some.injEq] at h
     by_cases ha : a = 58
     ·have hc : ((58 : UInt8) == c) = false := by rw [beq_eq_false_iff_ne]; intro e; exact h ⟨ha, e.symm⟩
      simp [List.isPrefixOf, hc]
     ·have hc : ((58 : UInt8) == a) = false := by rw [beq_eq_false_iff_ne]; intro e; exact ha e.symm
      simp [List.isPrefixOf, hc]
   rw [hp]
   cases a09 r with
   | none => rfl
   | some k =>
    have : (((k : Nat) : Int) == -1) = false := by rw [beq_eq_false_iff_ne]; omega
    simp only [a5I, Option.map_some, this, Bool.false_eq_true, if_false]
    omega
theorem an2 (s : List UInt8) (h : a09 s = none) : Lib.cut s [58, 58] = (s, [], false) := by
 rw [Lib.cut, a8w, h]
 rfl
theorem an3 (s : List UInt8) (k : Nat) (h : a09 s = some k) : Lib.cut s [58, 58] = (s.take k, s.drop (k + 2), true) := by
 rw [Lib.cut, a8w, h]
 simp [a5I]
def k6 {α : Type} : Nat → List α → List (Nat × α)
 | _, [] => []
 | i, x :: r => (i, x) :: k6 (i + 1) r
theorem a2j {α : Type} (i : Nat) (l : List α) : (k6 i l).length = l.length := by
 induction l generalizing i with
 | nil => rfl
 | cons x r ih => rw [k6, List.length_cons, List.length_cons, ih]
theorem a4y {α : Type} (i : Nat) (l : List α) : (k6 i l).map (·.2) = l := by
 induction l generalizing i with
 | nil => rfl
 | cons x r ih => rw [k6, List.map_cons, ih]
theorem a4x {α : Type} (i : Nat) (a b : List α) : k6 i (a ++ b) = k6 i a ++ k6 (i + a.length) b := by
 induction a generalizing i with
 | nil => simp [k6]
 | cons x r ih => rw [List.cons_append, k6, k6, ih, List.length_cons, List.cons_append, show i + 1 + r.length = i + (r.length + 1) by omega]
theorem a6e {α : Type} (i : Nat) (l : List α) (j : Nat) (h : j < l.length) : (k6 i l)[j]? = some (i + j, l[j]) := by
 induction l generalizing i j with
 | nil => simp at h
 | cons x r ih =>
  cases j with
  | zero => rfl
  | succ j =>
   rw [k6, List.getElem?_cons_succ, ih (i + 1) j (by simpa using h)]
   simp
   omega
end Go.Proofs.YtklipelnjgpnjaaGreatDoor
