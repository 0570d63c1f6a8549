import Derived.Test.YtklipelnjgpnjaaGreatDoorBAb
import Derived.Test.YtklipelnjgpnjaaGreatDoorLotB18
import Derived.Test.YtklipelnjgpnjaaGreatDoorLotB20
import Derived.Test.YtklipelnjgpnjaaGreatDoorLotB14
import Derived.Test.YtklipelnjgpnjaaGreatDoorLotB17
import Derived.BigQuiet
set_option maxHeartbeats 64000000
set_option maxRecDepth 100000
namespace Go.Proofs.YtklipelnjgpnjaaGreatDoor
open Go.RowKit
abbrev Ky := Nat × List UInt8 × Nat
def Tk.ky (t : Tk) : Ky := (t.kind, t.text, t.num)
def kW (x : List UInt8) : Ky := (2, x, 0)
def kS (x : List UInt8) : Ky := (5, x, 0)
def kN (n : Nat) : Ky := (1, dec n, n)
def kA (x : Ng) : Ky := (if x.of = 3 then 4 else 3, I7 x, 0)
def a1p (k : Int) : List Ky := if k = 1 then [kW L3] else if k = 2 then [kW J0] else []
def I2 (x : Ng) : List Ky :=
 if x.kind = 1 then [kN x.n]
 else if x.kind = 2 then [kW a1D]
 else if x.kind = 10 then [kW (if x.side = 1 then a1C else a1E)]
 else if x.kind = 11 then [kW (j9 x.of)]
 else if x.kind = 12 then [kW E0, kN x.n]
 else if x.kind = 13 then [kW (j9 x.of), kW E0, kN x.n]
 else if x.kind = 14 then a1p x.side ++ [kW U0, kA x]
 else if x.kind = 15 then a1p x.side ++ [kW U9, kA x, kS [47], kN x.bits.toNat]
 else (if x.of = 0 then [] else [kW (j9 x.of)]) ++ a1p x.side ++ (if x.n = x.m then [kW J5, kN x.n] else [kW I3, kN x.n, kS [45], kN x.m])
def J9 (x : Ng) : Ky := if x.kind = 7 then kW U8 else if x.kind = 8 then kW wOr else if x.kind = 6 then kS (a0R x.op) else kS (a06 x.op)
def a5q (n : Int) : List Ky := if n = 1 then [] else [kS [58], kN n.toNat]
def a1S (want : Bool) (l : List Ky) : List Ky := if want = true then kS [40] :: (l ++ [kS [41]]) else l
def Tr.ky (full : Bool) : Tr → List Ky
 | .leaf x => I2 x
 | .one x p =>
  if x.kind = 3 then kW (j9 x.of) :: kS [91] :: (p.ky full ++ (a5q x.size ++ [kS [93]]))
  else (if x.kind = 9 then kW U1 else kS [45]) :: a1S (m9 full (d4 p.root) (d4 x)) (p.ky full)
 | .two x p q => a1S (m9 full (d4 p.root) (if d4 x = 4 then 5 else d4 x)) (p.ky full) ++ J9 x :: a1S (m9 full (d4 q.root) (d4 x + 1)) (q.ky full)
theorem W5 {A : List Tk} (h : A.map Tk.ky = []) : A = [] := by simpa using h
theorem H0 {A : List Tk} {a : Ky} {l : List Ky} (h : A.map Tk.ky = a :: l) : ∃ p B, A = ⟨a.1, p, a.2.1, a.2.2⟩ :: B ∧ B.map Tk.ky = l := by
 cases A with
 | nil => simp at h
 | cons t B =>
  simp only [List.map_cons, List.cons.injEq] at h
  obtain ⟨rfl, h2⟩ := h
  exact ⟨t.pos, B, rfl, h2⟩
theorem a1M {A : List Tk} {k l : List Ky} (h : A.map Tk.ky = k ++ l) : ∃ B C, A = B ++ C ∧ B.map Tk.ky = k ∧ C.map Tk.ky = l := by
 obtain ⟨B, C, h1, h2, h3⟩ := List.map_eq_append_iff.1 h
 exact ⟨B, C, h1, h2, h3⟩
def a4r (B : List Tk) : Prop := ∀ x ∈ [[91], E0, L3, J0, J5, I3], isB B x = false
theorem aF8 {k : Int} (h : 1 ≤ k ∧ k ≤ 13) : (E4 (j9 k) : Int) = k := by
 have : k = 1 ∨ k = 2 ∨ k = 3 ∨ k = 4 ∨ k = 5 ∨ k = 6 ∨ k = 7 ∨ k = 8 ∨ k = 9 ∨ k = 10 ∨ k = 11 ∨ k = 12 ∨ k = 13 := by omega
 rcases this with rfl | rfl | rfl | rfl | rfl | rfl | rfl | rfl | rfl | rfl | rfl | rfl | rfl <;> decide
theorem a0p {a lo hi : Int} (h : inG a lo hi = true) : lo ≤ a ∧ a ≤ hi := by
 unfold inG at h
 have := Bool.and_eq_true_iff.1 h
 exact ⟨of_decide_eq_true this.1, of_decide_eq_true this.2⟩
theorem a1Y {x : Ng} (h : P6 x = true) (hl : x.addr.length = 16) : x = { j6 x with addr := x.addr } ∧ m3 x = m3 (j6 x) ∧ o4 x = true := by
 unfold P6 at h
 obtain ⟨hs, hm⟩ := Bool.and_eq_true_iff.1 h
 unfold a2e at hs
 simp only [Bool.and_eq_true, decide_eq_true_eq] at hs
 obtain ⟨⟨⟨⟨⟨⟨⟨⟨h0, h1⟩, h2⟩, h3⟩, h4⟩, h5⟩, h6⟩, h7⟩, h8⟩ := hs
 refine ⟨?_, h7, hm⟩
 cases x
 simp only at h0 h1 h2 h3 h4 h5 h6 h8 ⊢
 congr
theorem a4t {x : Ng} (hl : x.addr.length = 16) : m3 x = x.addr := by
 unfold m3
 generalize x.addr = l at *
 match l, hl with
 | [_, _, _, _, _, _, _, _, _, _, _, _, _, _, _, _], _ => rfl
theorem a1G {x : Ng} (h : P6 x = true) (hl : x.addr.length = 16) (hu : (j6 x).addr = j0 16) : x.addr = j0 16 := by
 have := (a1Y h hl).2.1
 rw [a4t hl] at this
 rw [this, a4t (by rw [hu]; rfl), hu]
theorem aX7 {rec : Nat → List Tk → Out} {nest p n : Nat} {t : List UInt8} {R : List Tk} : D4 rec nest (⟨1, p, t, n⟩ :: R) = .ok ([({ ndK 1 with n := n }, p)], R) := by
 unfold D4
 exact if_pos rfl
theorem a1q {rec : Nat → List Tk → Out} {nest p : Nat} {t : List UInt8} {R : List Tk} (ht : t ≠ [40]) : D4 rec nest (⟨2, p, t, 0⟩ :: R) = if E4 t ≠ 0 then S7 rec nest (E4 t) p R else a00 (⟨2, p, t, 0⟩ :: R) := by
 unfold D4
 rw [if_neg (by show ¬ (2 = 1); decide), if_neg, if_neg (by show ¬ (2 ≠ 2); decide)]
 ·rfl
 ·show ¬ (((2 : Nat) == 5 || (2 : Nat) == 2) && t == [40]) = true
  simp [ht]
theorem a5s {rec : Nat → List Tk → Out} {nest p : Nat} {k : Int} {R : List Tk} (hk : 1 ≤ k ∧ k ≤ 13) : D4 rec nest (⟨2, p, j9 k, 0⟩ :: R) = S7 rec nest k.toNat p R := by
 have hb := aF8 hk
 rw [a1q, if_pos (by omega)]
 ·congr 1
  omega
 ·have : k = 1 ∨ k = 2 ∨ k = 3 ∨ k = 4 ∨ k = 5 ∨ k = 6 ∨ k = 7 ∨ k = 8 ∨ k = 9 ∨ k = 10 ∨ k = 11 ∨ k = 12 ∨ k = 13 := by omega
  rcases this with rfl | rfl | rfl | rfl | rfl | rfl | rfl | rfl | rfl | rfl | rfl | rfl | rfl <;> decide
theorem b06 {c : UInt8} {r : List UInt8} {x : Nat × List UInt8 × Nat} (h : k8 (c :: r) = .ok x) : I8 c = false := by
 cases hb : I8 c with
 | false => rfl
 | true =>
  obtain ⟨h1, h2, h3, h4, h5, h6⟩ := al9 hb
  exfalso
  have hs : L6 (c :: r) = [] := by
   unfold L6
   have h2' : ¬ ((c :: r).take 2 ∈ L0) := by
    unfold I8 at hb
    simp only [Bool.or_eq_true, beq_iff_eq] at hb
    cases r with
    | nil => simp [L0]
    | cons d r =>
     show ¬ ([c, d] ∈ L0)
     simp only [L0, List.mem_cons, List.not_mem_nil, or_false, List.cons.injEq, and_true]
     rcases hb with ((rfl | rfl) | rfl) | rfl <;> simp
   rw [if_neg h2', if_neg (by show ¬ a0Q.contains c = true; rw [h6]; simp)]
  unfold k8 at h
  rw [List.takeWhile_cons_of_neg (by rw [h1]; simp), if_neg (by simp), if_neg (by show ¬ D8 c = true; rw [h4]; simp), if_neg (by show ¬ a0j c = true; rw [h5]; simp), if_pos hs] at h
  cases h
def o7 (s : List UInt8) (ks : List Ky) (c : List UInt8 → Prop) : Prop := ∀ (p : Nat) (r : List UInt8) (us : List Tk), c r → N8 (p + s.length) r = .ok us → ∃ A, N8 p (s ++ r) = .ok (A ++ us) ∧ A.map Tk.ky = ks
theorem o7.mono {s : List UInt8} {ks : List Ky} {c d : List UInt8 → Prop} (h : o7 s ks c) (hc : ∀ r, d r → c r) : o7 s ks d := fun p r us hr hu => h p r us (hc r hr) hu
theorem o7.app {s t : List UInt8} {ks ls : List Ky} {c d : List UInt8 → Prop} (h1 : o7 s ks c) (h2 : o7 t ls d) (hc : ∀ r, d r → c (t ++ r)) : o7 (s ++ t) (ks ++ ls) d := fun p r us hr hu => by
 obtain ⟨B, b1, b2⟩ := h2 (p + s.length) r us hr (by rw [Nat.add_assoc, ← List.length_append]; exact hu)
 obtain ⟨A, a1, a2⟩ := h1 p (t ++ r) (B ++ us) (hc r hr) b1
 exact ⟨A ++ B, by rw [List.append_assoc, a1, List.append_assoc], by rw [List.map_append, a2, b2]⟩
theorem a2x {k : Ky} {c : List UInt8 → Prop} (h : ∀ r, c r → k8 (k.2.1 ++ r) = .ok (k.1, k.2.1, k.2.2)) : o7 k.2.1 [k] c := fun p r us hr hu => by
 have ht := h r hr
 have hne := (Z9 ht).1
 cases hk : k.2.1 with
 | nil => exact absurd hk hne
 | cons c0 r0 =>
  rw [hk, List.cons_append] at ht
  rw [hk] at hu
  refine ⟨[⟨k.1, p, k.2.1, k.2.2⟩], ?_, rfl⟩
  rw [List.cons_append, a3f p (b06 ht) ht, ← List.cons_append, List.drop_left, hu, hk]
  rfl
theorem aC4 : o7 [32] [] (fun _ => True) := fun p r us _ hu => ⟨[], by rw [List.singleton_append, a3e p r (by decide)]; exact hu, rfl⟩
theorem a9g : o7 [] [] (fun _ => True) := fun _ _ _ _ hu => ⟨[], hu, rfl⟩
def a0E (r : List UInt8) : Prop := r = [] ∨ ∃ b r', r = b :: r' ∧ b ∈ [32, 41, 93, 45, 47, 91]
def a19 (r : List UInt8) : Prop := a0E r ∨ ∃ d r', r = 58 :: d :: 93 :: r' ∧ d ≠ 58
theorem a1e {r : List UInt8} (h : a0E r) : a19 r := .inl h
theorem a2p {b : UInt8} (h : b ∈ [32, 41, 93, 45, 47, 91]) (r : List UInt8) : a0E (b :: r) := .inr ⟨b, r, rfl, h⟩
theorem ar6 {b : UInt8} (h : b ∈ [32, 41, 93, 45, 47, 91]) : k6 b = false ∧ t8 b = false ∧ l0 b = false ∧ ∀ c, ¬ ([c, b] ∈ L0) := by
 simp only [List.mem_cons, List.not_mem_nil, or_false] at h
 rcases h with rfl | rfl | rfl | rfl | rfl | rfl <;> exact ⟨by decide, by decide, by decide, fun c => by simp [L0]⟩
theorem ad4 {t : List UInt8} {b : UInt8} (ht : t ≠ []) (h : ∀ c, ¬ ([c, b] ∈ L0)) (r : List UInt8) : L6 (t ++ b :: r) = L6 t := by
 cases t with
 | nil => exact absurd rfl ht
 | cons c t =>
  cases t with
  | nil =>
   have h2 : ¬ ([c].take 2 ∈ L0) := by simp [L0]
   unfold L6
   rw [if_neg (show ¬ (([c] ++ b :: r).take 2 ∈ L0) from h c), if_neg h2]
   rfl
  | cons d t => rfl
theorem ac8 {t : List UInt8} (ht : t ≠ []) (r : List UInt8) : (t ++ r).head? = t.head? := by
 cases t with
 | nil => exact absurd rfl ht
 | cons c t => rfl
theorem a5v {t r : List UInt8} (ht : t ≠ []) (h : a0E r) : k8 (t ++ r) = k8 t := by
 rcases h with rfl | ⟨b, r', rfl, hb⟩
 ·rw [List.append_nil]
 ·obtain ⟨b1, b2, b3, b4⟩ := ar6 hb
  have hb : ∀ p : UInt8 → Bool, p b = false → (t ++ b :: r').takeWhile p = t.takeWhile p := fun p hp => ae4 p t _ (.inr ⟨b, r', rfl, hp⟩)
  unfold k8
  rw [hb k6 b1, hb t8 b2, hb l0 b3, ac8 ht, ad4 ht b4]
theorem a8m (p : UInt8 → Bool) (t u : List UInt8) : ((t ++ u).takeWhile p).count 58 ≤ t.count 58 + (u.takeWhile p).count 58 := by
 induction t with
 | nil => simp
 | cons c t ih =>
  rw [List.cons_append]
  by_cases hc : p c = true
  ·rw [List.takeWhile_cons_of_pos hc, List.count_cons, List.count_cons]
   omega
  ·rw [List.takeWhile_cons_of_neg hc]
   simp
theorem af0 {t r : List UInt8} (ht : t ≠ []) (hc : 58 ∉ t) (h : a19 r) : k8 (t ++ r) = k8 t := by
 rcases h with h | ⟨d, r', rfl, hd⟩
 ·exact a5v ht h
 ·have hb : ∀ p : UInt8 → Bool, p 58 = false → (t ++ 58 :: d :: 93 :: r').takeWhile p = t.takeWhile p := fun p hp => ae4 p t _ (.inr ⟨58, _, rfl, hp⟩)
  have h0 : t.count 58 = 0 := List.count_eq_zero.2 hc
  have h1 : ¬ 2 ≤ ((t ++ 58 :: d :: 93 :: r').takeWhile k6).count 58 := by
   have := a8m k6 t (58 :: d :: 93 :: r')
   have h2 : ((58 :: d :: 93 :: r').takeWhile k6).count 58 ≤ 1 := by
    rw [List.takeWhile_cons_of_pos (by decide)]
    by_cases hs : k6 d = true
    ·rw [List.takeWhile_cons_of_pos hs, List.takeWhile_cons_of_neg (by decide), List.count_cons, List.count_cons]
     simp [hd]
    ·rw [List.takeWhile_cons_of_neg hs]
     decide
   omega
  have h3 : ¬ 2 ≤ (t.takeWhile k6).count 58 := by
   have := a8m k6 t []
   rw [List.append_nil] at this
   simp only [List.takeWhile_nil, List.count_nil] at this
   omega
  unfold k8
  rw [if_neg h1, if_neg h3, hb t8 (by decide), hb l0 (by decide), ac8 ht, ad4 ht (fun c => by simp [L0])]
theorem b09 {b : UInt8} (h6 : k6 b = false) (hd : D8 b = false) (hl : a0j b = false) (h1 : a0Q.contains b = true) (h2 : ∀ c, ¬ ([b, c] ∈ L0)) (r : List UInt8) : k8 ([b] ++ r) = .ok (5, [b], 0) := by
 unfold k8
 have h0 : ([b] ++ r).takeWhile k6 = [] := List.takeWhile_cons_of_neg (by rw [h6]; simp)
 rw [h0]
 rw [if_neg (by decide), if_neg (by show ¬ D8 b = true; rw [hd]; simp), if_neg (by show ¬ a0j b = true; rw [hl]; simp)]
 have hs : L6 ([b] ++ r) = [b] := by
  unfold L6
  have h3 : ¬ (([b] ++ r).take 2 ∈ L0) := by
   cases r with
   | nil => show ¬ ([b] ∈ L0); simp [L0]
   | cons d m => exact h2 d
  rw [if_neg h3, if_pos (show ([b] ++ r).head?.all (a0Q.contains ·) = true from h1)]
  rfl
 rw [hs, if_neg (by simp)]
theorem a3g {b : UInt8} (h6 : k6 b = false) (hd : D8 b = false) (hl : a0j b = false) (h1 : a0Q.contains b = true) (h2 : ∀ c, ¬ ([b, c] ∈ L0)) : o7 [b] [kS [b]] (fun _ => True) :=
 a2x (k := kS [b]) fun _ _ => b09 h6 hd hl h1 h2 _
theorem aC6 : o7 [40] [kS [40]] (fun _ => True) := a3g (by decide) (by decide) (by decide) (by decide) (fun c => by simp [L0])
theorem aC7 : o7 [41] [kS [41]] (fun _ => True) := a3g (by decide) (by decide) (by decide) (by decide) (fun c => by simp [L0])
theorem aC5 : o7 [91] [kS [91]] (fun _ => True) := a3g (by decide) (by decide) (by decide) (by decide) (fun c => by simp [L0])
theorem a9h : o7 [93] [kS [93]] (fun _ => True) := a3g (by decide) (by decide) (by decide) (by decide) (fun c => by simp [L0])
theorem a9f : o7 [45] [kS [45]] (fun _ => True) := a3g (by decide) (by decide) (by decide) (by decide) (fun c => by simp [L0])
theorem aC8 : o7 [47] [kS [47]] (fun _ => True) := a3g (by decide) (by decide) (by decide) (by decide) (fun c => by simp [L0])
theorem aC9 {x : List UInt8} (h : k8 x = .ok (2, x, 0)) (hc : 58 ∉ x) : o7 x [kW x] a19 :=
 a2x (k := kW x) fun _ hr => (af0 (Z9 h).1 hc hr).trans h
theorem a04 {x : List UInt8} (h : k8 x = .ok (2, x, 0)) : o7 x [kW x] a0E :=
 a2x (k := kW x) fun _ hr => (a5v (Z9 h).1 hr).trans h
theorem a9i {x : List UInt8} (h : k8 x = .ok (5, x, 0)) : o7 x [kS x] a0E :=
 a2x (k := kS x) fun _ hr => (a5v (Z9 h).1 hr).trans h
theorem a35 {c : UInt8} (h : D8 c = true) : c ≠ 58 ∧ c ≠ 46 ∧ l0 c = true ∧ t8 c = true ∧ c ≠ 120 := by
 refine ⟨?_, ?_, ?_, ?_, ?_⟩
 ·rintro rfl; revert h; decide
 ·rintro rfl; revert h; decide
 ·unfold l0; rw [h]; rfl
 ·unfold t8; rw [h]; rfl
 ·rintro rfl; revert h; decide
theorem af1 {n : Nat} (h : n ≤ 4294967295) : k8 (dec n) = .ok (1, dec n, n) := by
 have h20 : n < 10 ^ 20 := by omega
 have hd := a3P n h20
 have hne := a64 n h20
 have hv := a9A 4294967295 n h h20
 generalize dec n = s at *
 have hc : ¬ 2 ≤ (s.takeWhile k6).count 58 := by
  have : (s.takeWhile k6).count 58 = 0 := List.count_eq_zero.2 (fun hm => (a35 (hd _ ((List.takeWhile_sublist _).subset hm))).1 rfl)
  omega
 have h46 : ¬ 46 ∈ s.takeWhile t8 := fun hm => (a35 (hd _ ((List.takeWhile_sublist _).subset hm))).2.1 rfl
 have hw : s.takeWhile l0 = s := a7k l0 s (fun x hx => (a35 (hd x hx)).2.2.1)
 have hh : s.head?.any D8 = true := by
  cases s with
  | nil => exact absurd rfl hne
  | cons c r => exact hd c (List.mem_cons_self ..)
 have hn : a0P s = some n := by
  unfold a0P
  rw [if_neg ?_]
  ·exact hv
  ·rintro ⟨h2, -, hx⟩
   match s, h2, hx with
   | a :: b :: r, _, hx =>
    have hx : b = 120 := hx
    exact (a35 (hd b (by simp))).2.2.2.2 hx
 unfold k8
 rw [if_neg hc, if_pos hh, if_neg h46, hw, hn]
theorem aq8 {n : Nat} (h : n ≤ 4294967295) : 58 ∉ dec n := fun hm => (a35 (a3P n (by omega) _ hm)).1 rfl
theorem a23 {n : Nat} (h : n ≤ 4294967295) : o7 (dec n) [kN n] a19 :=
 a2x (k := kN n) fun _ hr => (af0 (Z9 (af1 h)).1 (aq8 h) hr).trans (af1 h)
theorem a6u {b : UInt8} : ∀ {ls : List (List UInt8)} {c : UInt8}, c ∈ l9 b ls → c = b ∨ ∃ l ∈ ls, c ∈ l
 | [], c, h => by cases h
 | [x], c, h => .inr ⟨x, by simp, by rw [a3T] at h; exact h⟩
 | x :: y :: r, c, h => by
  rw [a3d] at h
  rcases List.mem_append.1 h with h | h
  ·exact .inr ⟨x, by simp, h⟩
  ·rcases List.mem_cons.1 h with h | h
   ·exact .inl h
   ·rcases a6u h with h | ⟨l, hl, h⟩
    ·exact .inl h
    ·exact .inr ⟨l, List.mem_cons_of_mem _ hl, h⟩
theorem af3 {a : List UInt8} (h : a.length = 4) : k8 (S8 a) = .ok (3, S8 a, 0) := by
 have hlt : ∀ x : UInt8, x.toNat < 10 ^ 20 := fun x => by have := x.toNat_lt; omega
 have hm : ∀ c ∈ S8 a, c = 46 ∨ D8 c = true := fun c hc => by
  rcases a6u hc with h | ⟨l, hl, h⟩
  ·exact .inl h
  ·obtain ⟨x, -, rfl⟩ := List.mem_map.1 hl
   exact .inr (a3P _ (hlt x) c h)
 have hc : ¬ 2 ≤ ((S8 a).takeWhile k6).count 58 := by
  have : ((S8 a).takeWhile k6).count 58 = 0 := List.count_eq_zero.2 (fun hq => by
   rcases hm _ ((List.takeWhile_sublist _).subset hq) with h | h
   ·revert h; decide
   ·revert h; decide)
  omega
 have hq : (S8 a).takeWhile t8 = S8 a := a7k t8 _ (fun c hc => by
  rcases hm c hc with rfl | h
  ·decide
  ·exact (a35 h).2.2.2.1)
 match a, h with
 | [x, y, z, u], _ =>
  have hp : S8 [x, y, z, u] = dec x.toNat ++ 46 :: l9 46 [dec y.toNat, dec z.toNat, dec u.toNat] := by
   unfold S8
   rw [List.map_cons, List.map_cons, a3d]
   rfl
  have hh : (S8 [x, y, z, u]).head?.any D8 = true := by
   rw [hp]
   have h1 := a64 x.toNat (hlt x)
   have h2 := a3P x.toNat (hlt x)
   generalize dec x.toNat = s at *
   cases s with
   | nil => exact absurd rfl h1
   | cons c r => exact h2 c (List.mem_cons_self ..)
  have h46 : 46 ∈ S8 [x, y, z, u] := by rw [hp]; simp
  unfold k8
  rw [if_neg hc, if_pos hh, hq, if_pos h46]
theorem a96 : ∀ (ls : List (List UInt8)), ls.length ≤ (l9 58 ls).count 58 + 1
 | [] => by decide
 | [x] => by simp
 | x :: y :: r => by
  have := a96 (y :: r)
  rw [a3d, List.count_append, List.count_cons]
  simp only [List.length_cons] at this ⊢
  simp
  omega
theorem ae2 : ∀ {l : List UInt8} {c : UInt8}, c ∈ a17 l → c ∈ l
 | [], c, h => h
 | a :: r, c, h => by
  unfold a17 at h
  split at h
  ·exact List.mem_cons_of_mem _ (ae2 h)
  ·exact h
theorem aU8 {g : Nat} {c : UInt8} (h : c ∈ j3 g) : k6 c = true := by
 have h := ae2 h
 have key : ∀ n, n < 16 → k6 (I5 n) = true := fun n hn => by
  unfold k6
  rw [(a22 hn).1]
  rfl
 unfold a1f at h
 simp only [List.mem_cons, List.not_mem_nil, or_false] at h
 rcases h with rfl | rfl | rfl | rfl
 ·exact key _ (Nat.mod_lt _ (by decide))
 ·exact key _ (Nat.mod_lt _ (by decide))
 ·exact key _ (Nat.mod_lt _ (by decide))
 ·exact key _ (Nat.mod_lt _ (by decide))
theorem ad5 {gs : List Nat} (h8 : gs.length = 8) : k8 (W8 gs) = .ok (4, W8 gs, 0) := by
 have hj : ∀ (l : List Nat) (c : UInt8), c ∈ l9 58 (l.map j3) → k6 c = true := fun l c hc => by
  rcases a6u hc with rfl | ⟨x, hx, h⟩
  ·decide
  ·obtain ⟨g, -, rfl⟩ := List.mem_map.1 hx
   exact aU8 h
 have hm : (∀ c ∈ W8 gs, k6 c = true) ∧ 2 ≤ (W8 gs).count 58 := by
  unfold W8
  cases V6 0 gs none with
  | none =>
   refine ⟨hj gs, ?_⟩
   have := a96 (gs.map j3)
   rw [List.length_map, h8] at this
   show 2 ≤ (l9 58 (gs.map j3)).count 58
   omega
  | some p =>
   refine ⟨fun c hc => ?_, ?_⟩
   ·rcases List.mem_append.1 hc with h | h
    ·exact hj _ c h
    ·rcases List.mem_cons.1 h with rfl | h
     ·decide
     ·rcases List.mem_cons.1 h with rfl | h
      ·decide
      ·exact hj _ c h
   ·show 2 ≤ (l9 58 ((gs.take p.1).map j3) ++ (58 :: 58 :: l9 58 ((gs.drop (p.1 + p.2)).map j3))).count 58
    rw [List.count_append, List.count_cons, List.count_cons]
    simp
    omega
 have hw := a7k k6 (W8 gs) hm.1
 unfold k8
 rw [hw, if_pos hm.2]
theorem a6G {k : Int} (h : 1 ≤ k ∧ k ≤ 13) : j9 k ≠ [] := by
 have key : ∀ j : Fin 14, 1 ≤ j.val → j9 (j.val : Int) ≠ [] := by decide
 have := key ⟨k.toNat, by omega⟩ (by show 1 ≤ k.toNat; omega)
 rw [show ((⟨k.toNat, by omega⟩ : Fin 14).val : Int) = k from Int.toNat_of_nonneg (by omega)] at this
 exact this
theorem a7b (k : Int) : a0s k = if T5 k = [] then [] else T5 k ++ [32] := by
 unfold a0s T5
 by_cases h1 : k = 1
 ·rw [if_pos h1, if_pos h1]; rfl
 ·rw [if_neg h1, if_neg h1]
  by_cases h2 : k = 2
  ·rw [if_pos h2, if_pos h2]; rfl
  ·rw [if_neg h2, if_neg h2]; rfl
theorem aV5 (k : Int) : (T5 k).length ≤ 3 := by
 unfold T5
 repeat' split
 all_goals decide
theorem a5K (x : List UInt8) : wv [] x = x := by
 unfold wv
 split
 ·rename_i h; exact h.symm
 ·rfl
theorem a2V {a x : List UInt8} (ha : a ≠ []) (hx : x ≠ []) : wv a x = a ++ 32 :: x := by
 unfold wv
 rw [if_neg hx, if_neg ha]
theorem b1g (a : List UInt8) : wv a [] = a := by unfold wv; rw [if_pos rfl]
theorem ag7 (a b c : List UInt8) : P9 [a, b, c] = wv (wv a b) c := by
 show wv (wv (wv [] a) b) c = _
 rw [a5K]
theorem a5H {a b c : List UInt8} (hb : b ≠ []) (hc : c ≠ []) : P9 [a, b, c] = (if a = [] then [] else a ++ [32]) ++ b ++ [32] ++ c := by
 rw [ag7]
 by_cases ha : a = []
 ·rw [ha, a5K, a2V hb hc, if_pos rfl]; simp
 ·rw [a2V ha hb, a2V (by simp) hc, if_neg ha]; simp
theorem b19 {a b c : List UInt8} (hc : c ≠ []) : P9 [a, b, c] = (if a = [] then [] else a ++ [32]) ++ (if b = [] then [] else b ++ [32]) ++ c := by
 rw [ag7]
 by_cases ha : a = []
 ·rw [ha, a5K, if_pos rfl]
  by_cases hb : b = []
  ·rw [hb, a5K, if_pos rfl]; simp
  ·rw [a2V hb hc, if_neg hb]; simp
 ·rw [if_neg ha]
  by_cases hb : b = []
  ·rw [hb, b1g, a2V ha hc, if_pos rfl]; simp
  ·rw [a2V ha hb, a2V (by simp) hc, if_neg hb]; simp
theorem aP7 (n m : Nat) : a07 n m ≠ [] := by
 unfold a07
 split <;> simp
theorem ai3 (x : Ng) (h : (m3 x).length = 16) : I7 x ≠ [] := by
 unfold I7
 split
 ·have := Z9 (ad5 (gs := d8 (m3 x)) (a3s 8 _ h))
  exact this.1
 ·have := Z9 (af3 (a := (m3 x).take 4) (by rw [List.length_take, h]; rfl))
  exact this.1
theorem a3X (a b c : ByteArray) (W : World) : (Instr.buildSlice 82 3 #[(0, .string a), (1, .string b), (2, .string c)]).run Tryz.prog W = .ok (.slice (some ⟨W.heap.size, 0, none⟩) 3 3) (W.alloc (.cells [Value.string a, Value.string b, Value.string c].toArray 9)) := by kernel_rfl
theorem aU7 (x : Ng) (w : World) (T : j7 w) (ha : arG x.kind = some 0) (hf : P6 x = true) (hr : o9 x = 0) (hn : x.n ≤ 4294967295) (hm : x.m ≤ 4294967295) :
  Calls Tryz.prog 103 #[.agg x.cells.toArray] w fun e w' => e = .returned (str (m4 x)) ∧ w.grownBy w' none := by
 have HT : Hid (j7 w) := T
 clear T
 have hk : x.kind = 1 ∨ x.kind = 2 ∨ x.kind = 10 ∨ x.kind = 11 ∨ x.kind = 12 ∨ x.kind = 13 ∨ x.kind = 14 ∨ x.kind = 15 ∨ x.kind = 16 := by
  rcases Z1 ha with ⟨h1, -⟩ | ⟨h1, -⟩ | ⟨-, h1⟩
  ·cases h1
  ·cases h1
  ·exact h1
 obtain ⟨g1, g2, g3, g4, g5, g6, g10, -⟩ := a2q hf hr
 have h12 : x.kind = 12 → x.of = 0 := fun hk => by
  unfold P6 at hf
  obtain ⟨hs, -⟩ := Bool.and_eq_true_iff.1 hf
  unfold a2e at hs
  simp only [Bool.and_eq_true, decide_eq_true_eq] at hs
  have := hs.1.1.1.2
  rw [this]
  unfold j6
  rw [hk]
  rfl
 have h13 : x.kind = 13 → 1 ≤ x.of ∧ x.of ≤ 13 := fun hk => by
  unfold P6 at hf
  obtain ⟨-, hm⟩ := Bool.and_eq_true_iff.1 hf
  unfold o4 at hm
  rw [hk] at hm
  have := (show inG x.of 2 3 = true from hm)
  unfold inG at this
  have := Bool.and_eq_true_iff.1 this
  have h1 := of_decide_eq_true this.1
  have h2 := of_decide_eq_true this.2
  omega
 have HBX := D0 x
 have h3 := World.grownBy_alloc w (.cells x.cells.toArray 43) none
 have V := NB.alloc w x
 have HAL : Hid ((m3 x).length = 16) := a0F x
 obtain ⟨X, hX⟩ : ∃ X, x.cells.toArray = X := ⟨_, rfl⟩
 have HZ : Hid ((Tryz.prog.info? 43).map (·.size) = some X.size) := by rw [← hX]; exact J3 x
 have HXX : Hid (x.cells.toArray = X) := hX
 rw [hX] at HBX ⊢
 go_enter Tryz.func103, Tryz.ntmps103
 go_upto_region 1 with fail
 rw [← hX] at HBX ⊢
 rw [← hX] at hX
 have HNB : Hid (NB (w.alloc (.cells x.cells.toArray 43)) w.heap.size x ∧ w.grownBy (w.alloc (.cells x.cells.toArray 43)) none) := ⟨V, h3⟩
 generalize w.alloc (.cells x.cells.toArray 43) = w1 at *
 generalize w.heap.size = B at *
 have HV : Hid (∀ W, w1.grownBy W none → VAt W B 43 X) := fun W G => by rw [← HXX.out]; exact HNB.out.1.kept G
 have HC : Hid (∀ W, w1.grownBy W none → W.cell? ⟨B, 2, none⟩ = some (.int .u32 (x.n : Int)) ∧ W.cell? ⟨B, 3, none⟩ = some (.int .u32 (x.m : Int)) ∧ W.cell? ⟨B, 5, none⟩ = some (.int .i64 x.of) ∧ W.cell? ⟨B, 6, none⟩ = some (.int .i64 x.side) ∧ W.cell? ⟨B, 23, none⟩ = some (.int .i64 x.bits)) := fun W G => by
  have N := HNB.out.1.kept G
  exact ⟨N.n, N.m, N.of, N.side, N.bits⟩
 have HG1 : Hid (w.grownBy w1 none) := HNB.out.2
 have HT1 : Hid (∀ W, w1.grownBy W none → j7 W) := fun W G => HT.out.grown (d3 HG1.out G)
 have HDEC : Hid (∀ W : World, w1.grownBy W none → Calls Tryz.prog 134 #[.int .u32 (x.n : Int)] W fun e w' => e = .returned (str (dec x.n)) ∧ W.grownBy w' none) := fun W G => a5o x.n hn W (HT1.out W G)
 have HADR : Hid (∀ W : World, w1.grownBy W none → Calls Tryz.prog 138 #[.agg X] W fun e w' => e = .returned (str (I7 x)) ∧ W.grownBy w' none) := fun W G => by rw [← HXX.out]; exact aU4 x W (HT1.out W G)
 have HPRT : Hid (∀ W : World, w1.grownBy W none → Calls Tryz.prog 139 #[.int .u32 (x.n : Int), .int .u32 (x.m : Int)] W fun e w' => e = .returned (str (a07 x.n x.m)) ∧ W.grownBy w' none) := fun W G => aV3 x.n x.m hn hm W (HT1.out W G)
 have HITO : Hid (∀ W : World, w1.grownBy W none → Calls Tryz.prog 130 #[.int .i64 x.bits] W fun e w' => e = .returned (str (dec x.bits.toNat)) ∧ W.grownBy w' none) := fun W G => by
  have := a95 x.bits.toNat (by omega) W (HT1.out W G)
  rw [show ((x.bits.toNat : Nat) : Int) = x.bits by omega] at this
  exact this
 have HWD : Hid (∀ (a b c : List UInt8), a.length ≤ 2000 → b.length ≤ 2000 → c.length ≤ 2000 → ∀ (ad : Addr) (W : World), CV W (some ad) [str a, str b, str c] → Calls Tryz.prog 136 #[.slice (some ad) 3 3] W fun e w' => e = .returned (str (P9 [a, b, c])) ∧ W.grownBy w' none) := fun a b c h1 h2 h3 ad W C => a7w (some ad) 3 [a, b, c] W C (by simp) (fun y hy => by
  simp only [List.mem_cons, List.not_mem_nil, or_false] at hy
  rcases hy with rfl | rfl | rfl <;> omega)
 have hnl := U3 x.n
 have hbl := U3 x.bits.toNat
 have hal := a7K x
 have hol := a3i x.of
 have hsl := aV5 x.side
 have hpl := aP6 x.n x.m
 have HLEN : Hid ((dec x.n).length ≤ 20 ∧ (dec x.bits.toNat).length ≤ 20 ∧ (I7 x).length ≤ 1000 ∧ (j9 x.of).length ≤ 5 ∧ (T5 x.side).length ≤ 3 ∧ (a07 x.n x.m).length ≤ 60) := ⟨hnl, hbl, hal, hol, hsl, hpl⟩
 have c0 := HNB.out.1.kind
 obtain ⟨kk, hkk⟩ : ∃ kk, x.kind = kk := ⟨_, rfl⟩
 have HK : Hid (x.kind = kk) := hkk
 rw [hkk] at c0 hk h12 h13 g10
 have HF : Hid ((1 : Int) ≤ x.side → x.side ≤ 2 → True) := fun _ _ => trivial
 have HOF : Hid ((kk = 12 → x.of = 0) ∧ (kk = 13 → 1 ≤ x.of ∧ x.of ≤ 13) ∧ 0 ≤ x.of ∧ x.of ≤ 13 ∧ x.n ≤ 4294967295 ∧ x.bits.toNat ≤ 128 ∧ 0 ≤ x.side ∧ x.side ≤ 2 ∧ (kk = 10 → x.side ≠ 0)) := ⟨h12, h13, g3, g4, hn, by omega, g1, g2, g10⟩
 clear hnl hbl hal hol hsl hpl hX h3 V HBX hkk h12 h13 g1 g2 g3 g4 g5 g6 g10 hf hr ha hn hm HF
 rcases hk with rfl | rfl | rfl | rfl | rfl | rfl | rfl | rfl | rfl
 ·skip
  have HE : Hid (m4 x = dec x.n) := by unfold Hid m4; rw [HK.out]; rfl
  have c2 := (HC.out w1 (World.grownBy.refl _ _)).1
  go_wp2_with fail
  refine (HDEC.out w1 (World.grownBy.refl _ _)).mono ?_
  rintro e w3 ⟨rfl, K3⟩
  go_wp2
  go_ret
  exact ⟨by rw [HE.out]; rfl, d3 HG1.out K3⟩
 ·skip
  have HE : Hid (m4 x = [108, 101, 110]) := by unfold Hid m4; rw [HK.out]; rfl
  go_wp2
  go_ret
  exact ⟨by rw [HE.out]; rfl, HG1.out⟩
 ·skip
  have HE : Hid (m4 x = a4k x.side) := by unfold Hid m4 a4k; rw [HK.out]; rfl
  have c6 := (HC.out w1 (World.grownBy.refl _ _)).2.2.2.1
  go_wp2_with fail
  refine (b0S x.side w1).mono ?_
  rintro e w3 ⟨rfl, rfl⟩
  go_wp2
  go_ret
  exact ⟨by rw [HE.out]; rfl, HG1.out⟩
 ·skip
  have HE : Hid (m4 x = j9 x.of) := by unfold Hid m4; rw [HK.out]; rfl
  have c5 := (HC.out w1 (World.grownBy.refl _ _)).2.2.1
  go_wp2_with fail
  refine (a49 x.of w1).mono ?_
  rintro e w3 ⟨rfl, rfl⟩
  go_wp2
  go_ret
  exact ⟨by rw [HE.out]; rfl, HG1.out⟩
 ·skip
  have HE : Hid (m4 x = P9 [j9 x.of, [112, 114, 111, 116, 111], dec x.n]) := by
   show m4 x = _
   rw [a5H (by simp) (a65 x.n HOF.out.2.2.2.2.1), HOF.out.1 rfl]
   unfold m4
   rw [HK.out]
   rfl
  go_upto_region 12 with fail
  refine wp_region_held_drew (S := fun W' => w1.grownBy W' none) (by kernel_rfl) (f9 w1 1 none) (fun hHeld => ?_)
  generalize w1.drew = wd at *
  refine wpT (i := 0) (v := .pointer (some ⟨B, 5, none⟩)) rfl (Or.inl ⟨by rfl, fun W hW => ?_⟩) hHeld ?_
  ·clear hW
   go_simp
  try simp only [Act.put, a0, a1, a3, a4, a5]
  refine wpT (i := 1) (v := .int .i64 x.of) rfl (Or.inl ⟨by rfl, fun W hW => ?_⟩) hHeld ?_
  ·have c1 := (HC.out W hW).2.2.1
   clear hW
   go_simp
  try simp only [Act.put, a0, a1, a2, a3, a4, a5]
  refine wpT (i := 3) (v := .pointer (some ⟨B, 2, none⟩)) rfl (Or.inl ⟨by rfl, fun W hW => ?_⟩) hHeld ?_
  ·clear hW
   go_simp
  try simp only [Act.put, a0, a1, a2, a3, a4, a5]
  refine wpT (i := 4) (v := .int .u32 (x.n : Int)) rfl (Or.inl ⟨by rfl, fun W hW => ?_⟩) hHeld ?_
  ·have c1 := (HC.out W hW).1
   clear hW
   go_simp
  try simp only [Act.put, a0, a1, a2, a3, a4, a5]
  refine wpR (rs := [2]) (AllReadyH.cons rfl (fun K hK => ?_) AllReadyH.nil)
  go_simp
  refine (a49 x.of _).mono ?_
  rintro e _ ⟨rfl, rfl⟩
  go_wp2_with fail
  refine hK.out _ _ hHeld (fun hHeld => ?_)
  clear hK K
  try simp only [Act.put, a0, a1, a2, a3, a4, a5]
  refine wpR (rs := [5]) (AllReadyH.cons rfl (fun K hK => ?_) AllReadyH.nil)
  go_simp
  refine (HDEC.out _ hHeld).mono ?_
  rintro e wk ⟨rfl, Kk⟩
  go_wp2_with fail
  refine hK.out _ _ (d3 hHeld Kk) (fun hHeld => ?_)
  clear hK K Kk
  try simp only [Act.put, a0, a1, a2, a3, a4, a5]
  refine wpR (rs := [6]) (AllReadyH.cons rfl (fun K hK => ?_) AllReadyH.nil)
  refine a4d (by rfl) 82 3 _ (by rfl) _ (by kernel_rfl) [str (j9 x.of), str ([112, 114, 111, 116, 111]), str (dec x.n)] 9 (a3X _ _ _) ?_
  intro ad wl CL KL
  refine hK.out _ _ (d3 hHeld KL) (fun hHeld => ?_)
  clear hK K KL
  try simp only [Act.put, a0, a1, a2, a3, a4, a5]
  refine wpR (rs := [7]) (AllReadyH.cons rfl (fun K hK => ?_) AllReadyH.nil)
  go_simp
  refine (HWD.out (j9 x.of) ([112, 114, 111, 116, 111]) (dec x.n) (by have := HLEN.out; first | omega | simp) (by have := HLEN.out; first | omega | simp) (by have := HLEN.out; first | omega | (simp only [List.length_append, List.length_cons, List.length_nil]; omega)) _ _ CL).mono ?_
  rintro e wk ⟨rfl, Kk⟩
  go_wp2_with fail
  refine hK.out _ _ (d3 hHeld Kk) (fun hHeld => ?_)
  clear hK K Kk CL
  try simp only [Act.put, a0, a1, a2, a3, a4, a5]
  refine wpT (i := 8) (v := str (P9 [j9 x.of, [112, 114, 111, 116, 111], dec x.n])) rfl (Or.inl ⟨by rfl, fun W hW => ?_⟩) hHeld ?_
  ·clear hW
   go_simp
  try simp only [Act.put, a0, a1, a2, a3, a4, a5]
  refine wpAnyH_done (by kernel_rfl) ?_ _
  have HGF := hHeld
  clear hHeld
  go_wp2
  go_ret
  exact ⟨by rw [HE.out]; rfl, d3 HG1.out HGF⟩
 ·skip
  have HE : Hid (m4 x = P9 [j9 x.of, [112, 114, 111, 116, 111], dec x.n]) := by
   show m4 x = _
   rw [a5H (by simp) (a65 x.n HOF.out.2.2.2.2.1), if_neg (a6G (HOF.out.2.1 rfl))]
   unfold m4
   rw [HK.out]
   show j9 x.of ++ [32, 112, 114, 111, 116, 111, 32] ++ dec x.n = _
   simp
  go_upto_region 12 with fail
  refine wp_region_held_drew (S := fun W' => w1.grownBy W' none) (by kernel_rfl) (f9 w1 1 none) (fun hHeld => ?_)
  generalize w1.drew = wd at *
  refine wpT (i := 0) (v := .pointer (some ⟨B, 5, none⟩)) rfl (Or.inl ⟨by rfl, fun W hW => ?_⟩) hHeld ?_
  ·clear hW
   go_simp
  try simp only [Act.put, a0, a1, a3, a4, a5]
  refine wpT (i := 1) (v := .int .i64 x.of) rfl (Or.inl ⟨by rfl, fun W hW => ?_⟩) hHeld ?_
  ·have c1 := (HC.out W hW).2.2.1
   clear hW
   go_simp
  try simp only [Act.put, a0, a1, a2, a3, a4, a5]
  refine wpT (i := 3) (v := .pointer (some ⟨B, 2, none⟩)) rfl (Or.inl ⟨by rfl, fun W hW => ?_⟩) hHeld ?_
  ·clear hW
   go_simp
  try simp only [Act.put, a0, a1, a2, a3, a4, a5]
  refine wpT (i := 4) (v := .int .u32 (x.n : Int)) rfl (Or.inl ⟨by rfl, fun W hW => ?_⟩) hHeld ?_
  ·have c1 := (HC.out W hW).1
   clear hW
   go_simp
  try simp only [Act.put, a0, a1, a2, a3, a4, a5]
  refine wpR (rs := [2]) (AllReadyH.cons rfl (fun K hK => ?_) AllReadyH.nil)
  go_simp
  refine (a49 x.of _).mono ?_
  rintro e _ ⟨rfl, rfl⟩
  go_wp2_with fail
  refine hK.out _ _ hHeld (fun hHeld => ?_)
  clear hK K
  try simp only [Act.put, a0, a1, a2, a3, a4, a5]
  refine wpR (rs := [5]) (AllReadyH.cons rfl (fun K hK => ?_) AllReadyH.nil)
  go_simp
  refine (HDEC.out _ hHeld).mono ?_
  rintro e wk ⟨rfl, Kk⟩
  go_wp2_with fail
  refine hK.out _ _ (d3 hHeld Kk) (fun hHeld => ?_)
  clear hK K Kk
  try simp only [Act.put, a0, a1, a2, a3, a4, a5]
  refine wpR (rs := [6]) (AllReadyH.cons rfl (fun K hK => ?_) AllReadyH.nil)
  refine a4d (by rfl) 82 3 _ (by rfl) _ (by kernel_rfl) [str (j9 x.of), str ([112, 114, 111, 116, 111]), str (dec x.n)] 9 (a3X _ _ _) ?_
  intro ad wl CL KL
  refine hK.out _ _ (d3 hHeld KL) (fun hHeld => ?_)
  clear hK K KL
  try simp only [Act.put, a0, a1, a2, a3, a4, a5]
  refine wpR (rs := [7]) (AllReadyH.cons rfl (fun K hK => ?_) AllReadyH.nil)
  go_simp
  refine (HWD.out (j9 x.of) ([112, 114, 111, 116, 111]) (dec x.n) (by have := HLEN.out; first | omega | simp) (by have := HLEN.out; first | omega | simp) (by have := HLEN.out; first | omega | (simp only [List.length_append, List.length_cons, List.length_nil]; omega)) _ _ CL).mono ?_
  rintro e wk ⟨rfl, Kk⟩
  go_wp2_with fail
  refine hK.out _ _ (d3 hHeld Kk) (fun hHeld => ?_)
  clear hK K Kk CL
  try simp only [Act.put, a0, a1, a2, a3, a4, a5]
  refine wpT (i := 8) (v := str (P9 [j9 x.of, [112, 114, 111, 116, 111], dec x.n])) rfl (Or.inl ⟨by rfl, fun W hW => ?_⟩) hHeld ?_
  ·clear hW
   go_simp
  try simp only [Act.put, a0, a1, a2, a3, a4, a5]
  refine wpAnyH_done (by kernel_rfl) ?_ _
  have HGF := hHeld
  clear hHeld
  go_wp2
  go_ret
  exact ⟨by rw [HE.out]; rfl, d3 HG1.out HGF⟩
 ·skip
  have HE : Hid (m4 x = P9 [T5 x.side, [104, 111, 115, 116], I7 x]) := by
   show m4 x = _
   rw [a5H (by simp) (ai3 x HAL.out)]
   unfold m4
   rw [HK.out]
   show a0s x.side ++ [104, 111, 115, 116, 32] ++ I7 x = _
   rw [a7b]
   simp
  go_upto_region 14 with fail
  refine wp_region_held_drew (S := fun W' => w1.grownBy W' none) (by kernel_rfl) (f9 w1 1 none) (fun hHeld => ?_)
  generalize w1.drew = wd at *
  refine wpT (i := 0) (v := .pointer (some ⟨B, 6, none⟩)) rfl (Or.inl ⟨by rfl, fun W hW => ?_⟩) hHeld ?_
  ·clear hW
   go_simp
  try simp only [Act.put, a0, a1, a3, a4, a5]
  refine wpT (i := 1) (v := .int .i64 x.side) rfl (Or.inl ⟨by rfl, fun W hW => ?_⟩) hHeld ?_
  ·have c1 := (HC.out W hW).2.2.2.1
   clear hW
   go_simp
  try simp only [Act.put, a0, a1, a2, a3, a4, a5]
  refine wpT (i := 3) (v := .agg (X)) rfl (M8 (by rfl) _ _ rfl B rfl 43 (X) _ (fun W hW => HV.out W hW) Tryz.underlying43 rfl HZ.out) hHeld ?_
  try simp only [Act.put, a0, a1, a2, a3, a4, a5]
  refine wpR (rs := [2]) (AllReadyH.cons rfl (fun K hK => ?_) AllReadyH.nil)
  go_simp
  refine (a78 x.side _).mono ?_
  rintro e _ ⟨rfl, rfl⟩
  go_wp2_with fail
  refine hK.out _ _ hHeld (fun hHeld => ?_)
  clear hK K
  try simp only [Act.put, a0, a1, a2, a3, a4, a5]
  refine wpR (rs := [4]) (AllReadyH.cons rfl (fun K hK => ?_) AllReadyH.nil)
  go_simp
  refine (HADR.out _ hHeld).mono ?_
  rintro e wk ⟨rfl, Kk⟩
  go_wp2_with fail
  refine hK.out _ _ (d3 hHeld Kk) (fun hHeld => ?_)
  clear hK K Kk
  try simp only [Act.put, a0, a1, a2, a3, a4, a5]
  refine wpR (rs := [5]) (AllReadyH.cons rfl (fun K hK => ?_) AllReadyH.nil)
  refine a4d (by rfl) 82 3 _ (by rfl) _ (by kernel_rfl) [str (T5 x.side), str ([104, 111, 115, 116]), str (I7 x)] 9 (a3X _ _ _) ?_
  intro ad wl CL KL
  refine hK.out _ _ (d3 hHeld KL) (fun hHeld => ?_)
  clear hK K KL
  try simp only [Act.put, a0, a1, a2, a3, a4, a5]
  refine wpR (rs := [6]) (AllReadyH.cons rfl (fun K hK => ?_) AllReadyH.nil)
  go_simp
  refine (HWD.out (T5 x.side) ([104, 111, 115, 116]) (I7 x) (by have := HLEN.out; first | omega | simp) (by have := HLEN.out; first | omega | simp) (by have := HLEN.out; first | omega | (simp only [List.length_append, List.length_cons, List.length_nil]; omega)) _ _ CL).mono ?_
  rintro e wk ⟨rfl, Kk⟩
  go_wp2_with fail
  refine hK.out _ _ (d3 hHeld Kk) (fun hHeld => ?_)
  clear hK K Kk CL
  try simp only [Act.put, a0, a1, a2, a3, a4, a5]
  refine wpT (i := 7) (v := str (P9 [T5 x.side, [104, 111, 115, 116], I7 x])) rfl (Or.inl ⟨by rfl, fun W hW => ?_⟩) hHeld ?_
  ·clear hW
   go_simp
  try simp only [Act.put, a0, a1, a2, a3, a4, a5]
  refine wpAnyH_done (by kernel_rfl) ?_ _
  have HGF := hHeld
  clear hHeld
  go_wp2
  go_ret
  exact ⟨by rw [HE.out]; rfl, d3 HG1.out HGF⟩
 ·skip
  have HE : Hid (m4 x = P9 [T5 x.side, [110, 101, 116], I7 x ++ [47] ++ dec x.bits.toNat]) := by
   show m4 x = _
   rw [a5H (by simp) (by simp)]
   unfold m4
   rw [HK.out]
   show a0s x.side ++ [110, 101, 116, 32] ++ I7 x ++ [47] ++ dec x.bits.toNat = _
   rw [a7b]
   simp
  go_upto_region 16 with fail
  refine wp_region_held_drew (S := fun W' => w1.grownBy W' none) (by kernel_rfl) (f9 w1 1 none) (fun hHeld => ?_)
  generalize w1.drew = wd at *
  refine wpT (i := 0) (v := .pointer (some ⟨B, 6, none⟩)) rfl (Or.inl ⟨by rfl, fun W hW => ?_⟩) hHeld ?_
  ·clear hW
   go_simp
  try simp only [Act.put, a0, a1, a3, a4, a5]
  refine wpT (i := 1) (v := .int .i64 x.side) rfl (Or.inl ⟨by rfl, fun W hW => ?_⟩) hHeld ?_
  ·have c1 := (HC.out W hW).2.2.2.1
   clear hW
   go_simp
  try simp only [Act.put, a0, a1, a2, a3, a4, a5]
  refine wpT (i := 3) (v := .agg (X)) rfl (M8 (by rfl) _ _ rfl B rfl 43 (X) _ (fun W hW => HV.out W hW) Tryz.underlying43 rfl HZ.out) hHeld ?_
  try simp only [Act.put, a0, a1, a2, a3, a4, a5]
  refine wpT (i := 6) (v := .pointer (some ⟨B, 23, none⟩)) rfl (Or.inl ⟨by rfl, fun W hW => ?_⟩) hHeld ?_
  ·clear hW
   go_simp
  try simp only [Act.put, a0, a1, a2, a3, a4, a5]
  refine wpT (i := 7) (v := .int .i64 x.bits) rfl (Or.inl ⟨by rfl, fun W hW => ?_⟩) hHeld ?_
  ·have c1 := (HC.out W hW).2.2.2.2
   clear hW
   go_simp
  try simp only [Act.put, a0, a1, a2, a3, a4, a5]
  refine wpR (rs := [2]) (AllReadyH.cons rfl (fun K hK => ?_) AllReadyH.nil)
  go_simp
  refine (a78 x.side _).mono ?_
  rintro e _ ⟨rfl, rfl⟩
  go_wp2_with fail
  refine hK.out _ _ hHeld (fun hHeld => ?_)
  clear hK K
  try simp only [Act.put, a0, a1, a2, a3, a4, a5]
  refine wpR (rs := [4]) (AllReadyH.cons rfl (fun K hK => ?_) AllReadyH.nil)
  go_simp
  refine (HADR.out _ hHeld).mono ?_
  rintro e wk ⟨rfl, Kk⟩
  go_wp2_with fail
  refine hK.out _ _ (d3 hHeld Kk) (fun hHeld => ?_)
  clear hK K Kk
  try simp only [Act.put, a0, a1, a2, a3, a4, a5]
  refine wpT (i := 5) (v := str (I7 x ++ [47])) rfl (Or.inl ⟨by rfl, fun W hW => ?_⟩) hHeld ?_
  ·clear hW
   go_simp
   have hq := HLEN.out
   rw [if_neg (by omega), show (⟨#[47]⟩ : ByteArray) = ⟨([47] : List UInt8).toArray⟩ from rfl, a7j]
  try simp only [Act.put, a0, a1, a2, a3, a4, a5]
  refine wpR (rs := [8]) (AllReadyH.cons rfl (fun K hK => ?_) AllReadyH.nil)
  go_simp
  refine (HITO.out _ hHeld).mono ?_
  rintro e wk ⟨rfl, Kk⟩
  go_wp2_with fail
  refine hK.out _ _ (d3 hHeld Kk) (fun hHeld => ?_)
  clear hK K Kk
  try simp only [Act.put, a0, a1, a2, a3, a4, a5]
  refine wpT (i := 9) (v := str (I7 x ++ [47] ++ dec x.bits.toNat)) rfl (Or.inl ⟨by rfl, fun W hW => ?_⟩) hHeld ?_
  ·clear hW
   go_simp
   have hq := HLEN.out
   (rw [if_neg (by omega), a7j, List.append_assoc]; rfl)
  try simp only [Act.put, a0, a1, a2, a3, a4, a5]
  refine wpR (rs := [10]) (AllReadyH.cons rfl (fun K hK => ?_) AllReadyH.nil)
  refine a4d (by rfl) 82 3 _ (by rfl) _ (by kernel_rfl) [str (T5 x.side), str ([110, 101, 116]), str (I7 x ++ [47] ++ dec x.bits.toNat)] 9 (a3X _ _ _) ?_
  intro ad wl CL KL
  refine hK.out _ _ (d3 hHeld KL) (fun hHeld => ?_)
  clear hK K KL
  try simp only [Act.put, a0, a1, a2, a3, a4, a5]
  refine wpR (rs := [11]) (AllReadyH.cons rfl (fun K hK => ?_) AllReadyH.nil)
  go_simp
  refine (HWD.out (T5 x.side) ([110, 101, 116]) (I7 x ++ [47] ++ dec x.bits.toNat) (by have := HLEN.out; first | omega | simp) (by have := HLEN.out; first | omega | simp) (by have := HLEN.out; first | omega | (simp only [List.length_append, List.length_cons, List.length_nil]; omega)) _ _ CL).mono ?_
  rintro e wk ⟨rfl, Kk⟩
  go_wp2_with fail
  refine hK.out _ _ (d3 hHeld Kk) (fun hHeld => ?_)
  clear hK K Kk CL
  try simp only [Act.put, a0, a1, a2, a3, a4, a5]
  refine wpT (i := 12) (v := str (P9 [T5 x.side, [110, 101, 116], I7 x ++ [47] ++ dec x.bits.toNat])) rfl (Or.inl ⟨by rfl, fun W hW => ?_⟩) hHeld ?_
  ·clear hW
   go_simp
  try simp only [Act.put, a0, a1, a2, a3, a4, a5]
  refine wpAnyH_done (by kernel_rfl) ?_ _
  have HGF := hHeld
  clear hHeld
  go_wp2
  go_ret
  exact ⟨by rw [HE.out]; rfl, d3 HG1.out HGF⟩
 ·skip
  have HE : Hid (m4 x = P9 [j9 x.of, T5 x.side, a07 x.n x.m]) := by
   show m4 x = _
   rw [b19 (aP7 _ _)]
   unfold m4
   rw [HK.out]
   show (if x.of = 0 then [] else j9 x.of ++ [32]) ++ a0s x.side ++ (if x.n = x.m then _ else _) = _
   rw [a7b]
   congr 2
   by_cases h0 : x.of = 0
   ·rw [if_pos h0, h0]; rfl
   ·have := HOF.out
    rw [if_neg h0, if_neg (a6G ⟨by omega, by omega⟩)]
  go_upto_region 17 with fail
  refine wp_region_held_drew (S := fun W' => w1.grownBy W' none) (by kernel_rfl) (f9 w1 1 none) (fun hHeld => ?_)
  generalize w1.drew = wd at *
  refine wpT (i := 0) (v := .pointer (some ⟨B, 5, none⟩)) rfl (Or.inl ⟨by rfl, fun W hW => ?_⟩) hHeld ?_
  ·clear hW
   go_simp
  try simp only [Act.put, a0, a1, a3, a4, a5]
  refine wpT (i := 1) (v := .int .i64 x.of) rfl (Or.inl ⟨by rfl, fun W hW => ?_⟩) hHeld ?_
  ·have c1 := (HC.out W hW).2.2.1
   clear hW
   go_simp
  try simp only [Act.put, a0, a1, a2, a3, a4, a5]
  refine wpT (i := 3) (v := .pointer (some ⟨B, 6, none⟩)) rfl (Or.inl ⟨by rfl, fun W hW => ?_⟩) hHeld ?_
  ·clear hW
   go_simp
  try simp only [Act.put, a0, a1, a2, a3, a4, a5]
  refine wpT (i := 4) (v := .int .i64 x.side) rfl (Or.inl ⟨by rfl, fun W hW => ?_⟩) hHeld ?_
  ·have c1 := (HC.out W hW).2.2.2.1
   clear hW
   go_simp
  try simp only [Act.put, a0, a1, a2, a3, a4, a5]
  refine wpT (i := 6) (v := .pointer (some ⟨B, 2, none⟩)) rfl (Or.inl ⟨by rfl, fun W hW => ?_⟩) hHeld ?_
  ·clear hW
   go_simp
  try simp only [Act.put, a0, a1, a2, a3, a4, a5]
  refine wpT (i := 7) (v := .int .u32 (x.n : Int)) rfl (Or.inl ⟨by rfl, fun W hW => ?_⟩) hHeld ?_
  ·have c1 := (HC.out W hW).1
   clear hW
   go_simp
  try simp only [Act.put, a0, a1, a2, a3, a4, a5]
  refine wpT (i := 8) (v := .pointer (some ⟨B, 3, none⟩)) rfl (Or.inl ⟨by rfl, fun W hW => ?_⟩) hHeld ?_
  ·clear hW
   go_simp
  try simp only [Act.put, a0, a1, a2, a3, a4, a5]
  refine wpT (i := 9) (v := .int .u32 (x.m : Int)) rfl (Or.inl ⟨by rfl, fun W hW => ?_⟩) hHeld ?_
  ·have c1 := (HC.out W hW).2.1
   clear hW
   go_simp
  try simp only [Act.put, a0, a1, a2, a3, a4, a5]
  refine wpR (rs := [2]) (AllReadyH.cons rfl (fun K hK => ?_) AllReadyH.nil)
  go_simp
  refine (a49 x.of _).mono ?_
  rintro e _ ⟨rfl, rfl⟩
  go_wp2_with fail
  refine hK.out _ _ hHeld (fun hHeld => ?_)
  clear hK K
  try simp only [Act.put, a0, a1, a2, a3, a4, a5]
  refine wpR (rs := [5]) (AllReadyH.cons rfl (fun K hK => ?_) AllReadyH.nil)
  go_simp
  refine (a78 x.side _).mono ?_
  rintro e _ ⟨rfl, rfl⟩
  go_wp2_with fail
  refine hK.out _ _ hHeld (fun hHeld => ?_)
  clear hK K
  try simp only [Act.put, a0, a1, a2, a3, a4, a5]
  refine wpR (rs := [10]) (AllReadyH.cons rfl (fun K hK => ?_) AllReadyH.nil)
  go_simp
  refine (HPRT.out _ hHeld).mono ?_
  rintro e wk ⟨rfl, Kk⟩
  go_wp2_with fail
  refine hK.out _ _ (d3 hHeld Kk) (fun hHeld => ?_)
  clear hK K Kk
  try simp only [Act.put, a0, a1, a2, a3, a4, a5]
  refine wpR (rs := [11]) (AllReadyH.cons rfl (fun K hK => ?_) AllReadyH.nil)
  refine a4d (by rfl) 82 3 _ (by rfl) _ (by kernel_rfl) [str (j9 x.of), str (T5 x.side), str (a07 x.n x.m)] 9 (a3X _ _ _) ?_
  intro ad wl CL KL
  refine hK.out _ _ (d3 hHeld KL) (fun hHeld => ?_)
  clear hK K KL
  try simp only [Act.put, a0, a1, a2, a3, a4, a5]
  refine wpR (rs := [12]) (AllReadyH.cons rfl (fun K hK => ?_) AllReadyH.nil)
  go_simp
  refine (HWD.out (j9 x.of) (T5 x.side) (a07 x.n x.m) (by have := HLEN.out; first | omega | simp) (by have := HLEN.out; first | omega | simp) (by have := HLEN.out; first | omega | (simp only [List.length_append, List.length_cons, List.length_nil]; omega)) _ _ CL).mono ?_
  rintro e wk ⟨rfl, Kk⟩
  go_wp2_with fail
  refine hK.out _ _ (d3 hHeld Kk) (fun hHeld => ?_)
  clear hK K Kk CL
  try simp only [Act.put, a0, a1, a2, a3, a4, a5]
  refine wpT (i := 13) (v := str (P9 [j9 x.of, T5 x.side, a07 x.n x.m])) rfl (Or.inl ⟨by rfl, fun W hW => ?_⟩) hHeld ?_
  ·clear hW
   go_simp
  try simp only [Act.put, a0, a1, a2, a3, a4, a5]
  refine wpAnyH_done (by kernel_rfl) ?_ _
  have HGF := hHeld
  clear hHeld
  go_wp2
  go_ret
  exact ⟨by rw [HE.out]; rfl, d3 HG1.out HGF⟩
theorem a3x (x : Ng) (w : World) : Calls Tryz.prog 98 #[.agg x.cells.toArray] w fun e w' => e = .returned (.int .i64 (d4 x)) ∧ w.grownBy w' none := by
 have HBX := D0 x
 have h3 := World.grownBy_alloc w (.cells x.cells.toArray 43) none
 have V := NB.alloc w x
 obtain ⟨E, hE⟩ : ∃ E, d4 x = E := ⟨_, rfl⟩
 rw [hE]
 have HE : Hid (d4 x = E) := hE
 obtain ⟨X, hX⟩ : ∃ X, x.cells.toArray = X := ⟨_, rfl⟩
 rw [hX] at HBX ⊢
 clear hE
 go_enter Tryz.func98, Tryz.ntmps98
 go_upto_region 1 with fail
 rw [← hX] at *
 generalize w.alloc (.cells x.cells.toArray 43) = w1 at *
 generalize w.heap.size = B at *
 have c0 := V.kind
 have c1 := V.op
 obtain ⟨kk, hkk⟩ : ∃ kk, x.kind = kk := ⟨_, rfl⟩
 have HK : Hid (x.kind = kk) := hkk
 rw [hkk] at c0
 clear HBX hX X V hkk
 have hc : kk = 8 ∨ kk = 7 ∨ kk = 9 ∨ kk = 6 ∨ kk = 5 ∨ kk = 4 ∨ ¬ (4 ≤ kk ∧ kk ≤ 9) := by omega
 rcases hc with rfl | rfl | rfl | rfl | rfl | rfl | hn
 ·obtain rfl : E = 1 := by rw [← HE.out]; unfold d4; rw [HK.out]; rfl
  go_wp2
  go_ret
  exact ⟨rfl, h3⟩
 ·obtain rfl : E = 2 := by rw [← HE.out]; unfold d4; rw [HK.out]; rfl
  go_wp2
  go_ret
  exact ⟨rfl, h3⟩
 ·obtain rfl : E = 3 := by rw [← HE.out]; unfold d4; rw [HK.out]; rfl
  go_wp2
  go_ret
  exact ⟨rfl, h3⟩
 ·obtain rfl : E = 4 := by rw [← HE.out]; unfold d4; rw [HK.out]; rfl
  go_wp2
  go_ret
  exact ⟨rfl, h3⟩
 ·obtain rfl : E = 11 := by rw [← HE.out]; unfold d4; rw [HK.out]; rfl
  go_wp2
  go_ret
  exact ⟨rfl, h3⟩
 ·have CA := aS4 x.op
  obtain rfl : E = a3w x.op := by rw [← HE.out]; exact aS7 HK.out
  go_wp2_with fail
  refine (CA _).mono ?_
  rintro e w2 ⟨rfl, rfl⟩
  go_wp2
  go_ret
  exact ⟨rfl, h3⟩
 ·obtain rfl : E = 12 := by
   rw [← HE.out]
   unfold d4
   rw [HK.out]
   rw [if_neg (by omega), if_neg (by omega), if_neg (by omega), if_neg (by omega), if_neg (by omega), if_pos (by omega)]
  have u4 : (kk == 4) = false := by rw [beq_eq_false_iff_ne]; omega
  have u5 : (kk == 5) = false := by rw [beq_eq_false_iff_ne]; omega
  have u6 : (kk == 6) = false := by rw [beq_eq_false_iff_ne]; omega
  have u7 : (kk == 7) = false := by rw [beq_eq_false_iff_ne]; omega
  have u8 : (kk == 8) = false := by rw [beq_eq_false_iff_ne]; omega
  have u9 : (kk == 9) = false := by rw [beq_eq_false_iff_ne]; omega
  clear hn
  go_wp2
  go_ret
  exact ⟨rfl, h3⟩
theorem ap4 {k : Int} (h : 1 ≤ k ∧ k ≤ 6) : a3O k = a0R k := by
 have : k = 1 ∨ k = 2 ∨ k = 3 ∨ k = 4 ∨ k = 5 ∨ k = 6 := by omega
 rcases this with rfl | rfl | rfl | rfl | rfl | rfl <;> rfl
theorem ai8 {k : Int} (h : 1 ≤ k ∧ k ≤ 10) : a3L k = a06 k := by
 have : k = 1 ∨ k = 2 ∨ k = 3 ∨ k = 4 ∨ k = 5 ∨ k = 6 ∨ k = 7 ∨ k = 8 ∨ k = 9 ∨ k = 10 := by omega
 rcases this with rfl | rfl | rfl | rfl | rfl | rfl | rfl | rfl | rfl | rfl <;> rfl
theorem aV4 (x : Ng) (w : World) (hx : x.kind = 7 ∨ x.kind = 8 ∨ (x.kind = 6 ∧ 1 ≤ x.op ∧ x.op ≤ 6) ∨ (x.kind = 4 ∧ 1 ≤ x.op ∧ x.op ≤ 10)) : Calls Tryz.prog 102 #[.agg x.cells.toArray] w fun e w' => e = .returned (str (O0 x)) ∧ w.grownBy w' none := by
 have HBX := D0 x
 have h3 := World.grownBy_alloc w (.cells x.cells.toArray 43) none
 have V := NB.alloc w x
 obtain ⟨E, hE⟩ : ∃ E, O0 x = E := ⟨_, rfl⟩
 rw [hE]
 have HE : Hid (O0 x = E) := hE
 obtain ⟨X, hX⟩ : ∃ X, x.cells.toArray = X := ⟨_, rfl⟩
 rw [hX] at HBX ⊢
 clear hE
 go_enter Tryz.func102, Tryz.ntmps102
 go_upto_region 1 with fail
 rw [← hX] at *
 generalize w.alloc (.cells x.cells.toArray 43) = w1 at *
 generalize w.heap.size = B at *
 have c0 := V.kind
 have c1 := V.op
 obtain ⟨kk, hkk⟩ : ∃ kk, x.kind = kk := ⟨_, rfl⟩
 have HK : Hid (x.kind = kk) := hkk
 rw [hkk] at c0
 rw [hkk] at hx
 clear HBX hX X V hkk
 rcases hx with rfl | rfl | ⟨rfl, h1, h2⟩ | ⟨rfl, h1, h2⟩
 ·obtain rfl : E = [97, 110, 100] := by rw [← HE.out]; unfold O0; rw [HK.out]; rfl
  go_wp2
  go_ret
  exact ⟨rfl, h3⟩
 ·obtain rfl : E = [111, 114] := by rw [← HE.out]; unfold O0; rw [HK.out]; rfl
  go_wp2
  go_ret
  exact ⟨rfl, h3⟩
 ·have CC := ap5 x.op
  obtain rfl : E = a3O x.op := by rw [← HE.out, ap4 ⟨h1, h2⟩]; unfold O0; rw [HK.out]; rfl
  clear h1 h2
  go_wp2_with fail
  refine (CC _).mono ?_
  rintro e w2 ⟨rfl, rfl⟩
  go_wp2
  go_ret
  exact ⟨rfl, h3⟩
 ·have CC := aj1 x.op
  obtain rfl : E = a3L x.op := by rw [← HE.out, ai8 ⟨h1, h2⟩]; unfold O0; rw [HK.out]; rfl
  clear h1 h2
  go_wp2_with fail
  refine (CC _).mono ?_
  rintro e w2 ⟨rfl, rfl⟩
  go_wp2
  go_ret
  exact ⟨rfl, h3⟩

end Go.Proofs.YtklipelnjgpnjaaGreatDoor
