import Derived.Test.YtklipelnjgpnjaaGreatDoorSAb
import Derived.Test.YtklipelnjgpnjaaGreatDoorLotS16
import Derived.Test.YtklipelnjgpnjaaGreatDoorLotS18
import Derived.Test.YtklipelnjgpnjaaGreatDoorLotS13
import Derived.Test.YtklipelnjgpnjaaGreatDoorLotS15
import Derived.BigQuiet
set_option maxHeartbeats 64000000
set_option maxRecDepth 100000
namespace Go.Proofs.YtklipelnjgpnjaaGreatDoor
open Go.RowKit
abbrev Ky := Nat × List UInt8 × Nat
def Tk.ky (t : Tk) : Ky := (t.kind, t.text, t.num)
def kW (x : List UInt8) : Ky := (2, x, 0)
def kS (x : List UInt8) : Ky := (5, x, 0)
def kN (n : Nat) : Ky := (1, dec n, n)
def kA (x : Ng) : Ky := (if x.of = 3 then 4 else 3, I2 x, 0)
def a1s (k : Int) : List Ky := if k = 1 then [kW J8] else if k = 2 then [kW I6] else []
def H0 (x : Ng) : List Ky :=
 if x.kind = 1 then [kN x.n]
 else if x.kind = 2 then [kW a1F]
 else if x.kind = 10 then [kW (if x.side = 1 then a1E else a1G)]
 else if x.kind = 11 then [kW (j6 x.of)]
 else if x.kind = 12 then [kW D5, kN x.n]
 else if x.kind = 13 then [kW (j6 x.of), kW D5, kN x.n]
 else if x.kind = 14 then a1s x.side ++ [kW U0, kA x]
 else if x.kind = 15 then a1s x.side ++ [kW V6, kA x, kS [47], kN x.bits.toNat]
 else (if x.of = 0 then [] else [kW (j6 x.of)]) ++ a1s x.side ++ (if x.n = x.m then [kW J0, kN x.n] else [kW H9, kN x.n, kS [45], kN x.m])
def J4 (x : Ng) : Ky := if x.kind = 7 then kW V0 else if x.kind = 8 then kW wOr else if x.kind = 6 then kS (a0S x.op) else kS (a07 x.op)
def a5o (n : Int) : List Ky := if n = 1 then [] else [kS [58], kN n.toNat]
def a1V (want : Bool) (l : List Ky) : List Ky := if want = true then kS [40] :: (l ++ [kS [41]]) else l
def Tr.ky (full : Bool) : Tr → List Ky
 | .leaf x => H0 x
 | .one x p =>
  if x.kind = 3 then kW (j6 x.of) :: kS [91] :: (p.ky full ++ (a5o x.size ++ [kS [93]]))
  else (if x.kind = 9 then kW U1 else kS [45]) :: a1V (m8 full (d4 p.root) (d4 x)) (p.ky full)
 | .two x p q => a1V (m8 full (d4 p.root) (if d4 x = 4 then 5 else d4 x)) (p.ky full) ++ J4 x :: a1V (m8 full (d4 q.root) (d4 x + 1)) (q.ky full)
theorem W7 {A : List Tk} (h : A.map Tk.ky = []) : A = [] := by simpa using h
theorem E0 {A : List Tk} {a : Ky} {l : List Ky} (h : A.map Tk.ky = a :: l) : ∃ p B, A = ⟨a.1, p, a.2.1, a.2.2⟩ :: B ∧ B.map Tk.ky = l := by
 cases A with
 | nil => simp at h
 | cons t B =>
  simp only [List.map_cons, List.cons.injEq] at h
  obtain ⟨rfl, h2⟩ := h
  exact ⟨t.pos, B, rfl, h2⟩
theorem a1Q {A : List Tk} {k l : List Ky} (h : A.map Tk.ky = k ++ l) : ∃ B C, A = B ++ C ∧ B.map Tk.ky = k ∧ C.map Tk.ky = l := by
 obtain ⟨B, C, h1, h2, h3⟩ := List.map_eq_append_iff.1 h
 exact ⟨B, C, h1, h2, h3⟩
def a4o (B : List Tk) : Prop := ∀ x ∈ [[91], D5, J8, I6, J0, H9], isB B x = false
theorem aF0 {k : Int} (h : 1 ≤ k ∧ k ≤ 13) : (D7 (j6 k) : Int) = k := by
 have : k = 1 ∨ k = 2 ∨ k = 3 ∨ k = 4 ∨ k = 5 ∨ k = 6 ∨ k = 7 ∨ k = 8 ∨ k = 9 ∨ k = 10 ∨ k = 11 ∨ k = 12 ∨ k = 13 := by omega
 rcases this with rfl | rfl | rfl | rfl | rfl | rfl | rfl | rfl | rfl | rfl | rfl | rfl | rfl <;> decide
theorem a0s {a lo hi : Int} (h : inG a lo hi = true) : lo ≤ a ∧ a ≤ hi := by
 unfold inG at h
 have := Bool.and_eq_true_iff.1 h
 exact ⟨of_decide_eq_true this.1, of_decide_eq_true this.2⟩
theorem a21 {x : Ng} (h : O0 x = true) (hl : x.addr.length = 16) : x = { j3 x with addr := x.addr } ∧ l0 x = l0 (j3 x) ∧ m4 x = true := by
 unfold O0 at h
 obtain ⟨hs, hm⟩ := Bool.and_eq_true_iff.1 h
 unfold a2e at hs
 simp only [Bool.and_eq_true, decide_eq_true_eq] at hs
 obtain ⟨⟨⟨⟨⟨⟨⟨⟨h0, h1⟩, h2⟩, h3⟩, h4⟩, h5⟩, h6⟩, h7⟩, h8⟩ := hs
 refine ⟨?_, h7, hm⟩
 cases x
 simp only at h0 h1 h2 h3 h4 h5 h6 h8 ⊢
 congr
theorem a4q {x : Ng} (hl : x.addr.length = 16) : l0 x = x.addr := by
 unfold l0
 generalize x.addr = l at *
 match l, hl with
 | [_, _, _, _, _, _, _, _, _, _, _, _, _, _, _, _], _ => rfl
theorem a1I {x : Ng} (h : O0 x = true) (hl : x.addr.length = 16) (hu : (j3 x).addr = f7 16) : x.addr = f7 16 := by
 have := (a21 h hl).2.1
 rw [a4q hl] at this
 rw [this, a4q (by rw [hu]; rfl), hu]
theorem aY1 {rec : Nat → List Tk → Out} {nest p n : Nat} {t : List UInt8} {R : List Tk} : s9 rec nest (⟨1, p, t, n⟩ :: R) = .ok ([({ ndK 1 with n := n }, p)], R) := by
 unfold s9
 exact if_pos rfl
theorem a1t {rec : Nat → List Tk → Out} {nest p : Nat} {t : List UInt8} {R : List Tk} (ht : t ≠ [40]) : s9 rec nest (⟨2, p, t, 0⟩ :: R) = if D7 t ≠ 0 then M1 rec nest (D7 t) p R else P8 (⟨2, p, t, 0⟩ :: R) := by
 unfold s9
 rw [if_neg (by show ¬ (2 = 1); decide), if_neg, if_neg (by show ¬ (2 ≠ 2); decide)]
 ·rfl
 ·show ¬ (((2 : Nat) == 5 || (2 : Nat) == 2) && t == [40]) = true
  simp [ht]
theorem a5q {rec : Nat → List Tk → Out} {nest p : Nat} {k : Int} {R : List Tk} (hk : 1 ≤ k ∧ k ≤ 13) : s9 rec nest (⟨2, p, j6 k, 0⟩ :: R) = M1 rec nest k.toNat p R := by
 have hb := aF0 hk
 rw [a1t, if_pos (by omega)]
 ·congr 1
  omega
 ·have : k = 1 ∨ k = 2 ∨ k = 3 ∨ k = 4 ∨ k = 5 ∨ k = 6 ∨ k = 7 ∨ k = 8 ∨ k = 9 ∨ k = 10 ∨ k = 11 ∨ k = 12 ∨ k = 13 := by omega
  rcases this with rfl | rfl | rfl | rfl | rfl | rfl | rfl | rfl | rfl | rfl | rfl | rfl | rfl <;> decide
theorem b08 {c : UInt8} {r : List UInt8} {x : Nat × List UInt8 × Nat} (h : j9 (c :: r) = .ok x) : I3 c = false := by
 cases hb : I3 c with
 | false => rfl
 | true =>
  obtain ⟨h1, h2, h3, h4, h5, h6⟩ := al2 hb
  exfalso
  have hs : K0 (c :: r) = [] := by
   unfold K0
   have h2' : ¬ ((c :: r).take 2 ∈ J6) := by
    unfold I3 at hb
    simp only [Bool.or_eq_true, beq_iff_eq] at hb
    cases r with
    | nil => simp [J6]
    | cons d r =>
     show ¬ ([c, d] ∈ J6)
     simp only [J6, List.mem_cons, List.not_mem_nil, or_false, List.cons.injEq, and_true]
     rcases hb with ((rfl | rfl) | rfl) | rfl <;> simp
   rw [if_neg h2', if_neg (by show ¬ a0R.contains c = true; rw [h6]; simp)]
  unfold j9 at h
  rw [List.takeWhile_cons_of_neg (by rw [h1]; simp), if_neg (by simp), if_neg (by show ¬ D3 c = true; rw [h4]; simp), if_neg (by show ¬ a0l c = true; rw [h5]; simp), if_pos hs] at h
  cases h
def o5 (s : List UInt8) (ks : List Ky) (c : List UInt8 → Prop) : Prop := ∀ (p : Nat) (r : List UInt8) (us : List Tk), c r → M9 (p + s.length) r = .ok us → ∃ A, M9 p (s ++ r) = .ok (A ++ us) ∧ A.map Tk.ky = ks
theorem o5.mono {s : List UInt8} {ks : List Ky} {c d : List UInt8 → Prop} (h : o5 s ks c) (hc : ∀ r, d r → c r) : o5 s ks d := fun p r us hr hu => h p r us (hc r hr) hu
theorem o5.app {s t : List UInt8} {ks ls : List Ky} {c d : List UInt8 → Prop} (h1 : o5 s ks c) (h2 : o5 t ls d) (hc : ∀ r, d r → c (t ++ r)) : o5 (s ++ t) (ks ++ ls) d := fun p r us hr hu => by
 obtain ⟨B, b1, b2⟩ := h2 (p + s.length) r us hr (by rw [Nat.add_assoc, ← List.length_append]; exact hu)
 obtain ⟨A, a1, a2⟩ := h1 p (t ++ r) (B ++ us) (hc r hr) b1
 exact ⟨A ++ B, by rw [List.append_assoc, a1, List.append_assoc], by rw [List.map_append, a2, b2]⟩
theorem a2y {k : Ky} {c : List UInt8 → Prop} (h : ∀ r, c r → j9 (k.2.1 ++ r) = .ok (k.1, k.2.1, k.2.2)) : o5 k.2.1 [k] c := fun p r us hr hu => by
 have ht := h r hr
 have hne := (Z2 ht).1
 cases hk : k.2.1 with
 | nil => exact absurd hk hne
 | cons c0 r0 =>
  rw [hk, List.cons_append] at ht
  rw [hk] at hu
  refine ⟨[⟨k.1, p, k.2.1, k.2.2⟩], ?_, rfl⟩
  rw [List.cons_append, a3d p (b08 ht) ht, ← List.cons_append, List.drop_left, hu, hk]
  rfl
theorem aB6 : o5 [32] [] (fun _ => True) := fun p r us _ hu => ⟨[], by rw [List.singleton_append, a3c p r (by decide)]; exact hu, rfl⟩
theorem a9f : o5 [] [] (fun _ => True) := fun _ _ _ _ hu => ⟨[], hu, rfl⟩
def a0E (r : List UInt8) : Prop := r = [] ∨ ∃ b r', r = b :: r' ∧ b ∈ [32, 41, 93, 45, 47, 91]
def a1a (r : List UInt8) : Prop := a0E r ∨ ∃ d r', r = 58 :: d :: 93 :: r' ∧ d ≠ 58
theorem a1f {r : List UInt8} (h : a0E r) : a1a r := .inl h
theorem a2p {b : UInt8} (h : b ∈ [32, 41, 93, 45, 47, 91]) (r : List UInt8) : a0E (b :: r) := .inr ⟨b, r, rfl, h⟩
theorem aq7 {b : UInt8} (h : b ∈ [32, 41, 93, 45, 47, 91]) : j8 b = false ∧ t8 b = false ∧ k6 b = false ∧ ∀ c, ¬ ([c, b] ∈ J6) := by
 simp only [List.mem_cons, List.not_mem_nil, or_false] at h
 rcases h with rfl | rfl | rfl | rfl | rfl | rfl <;> exact ⟨by decide, by decide, by decide, fun c => by simp [J6]⟩
theorem ad0 {t : List UInt8} {b : UInt8} (ht : t ≠ []) (h : ∀ c, ¬ ([c, b] ∈ J6)) (r : List UInt8) : K0 (t ++ b :: r) = K0 t := by
 cases t with
 | nil => exact absurd rfl ht
 | cons c t =>
  cases t with
  | nil =>
   have h2 : ¬ ([c].take 2 ∈ J6) := by simp [J6]
   unfold K0
   rw [if_neg (show ¬ (([c] ++ b :: r).take 2 ∈ J6) from h c), if_neg h2]
   rfl
  | cons d t => rfl
theorem ac4 {t : List UInt8} (ht : t ≠ []) (r : List UInt8) : (t ++ r).head? = t.head? := by
 cases t with
 | nil => exact absurd rfl ht
 | cons c t => rfl
theorem a5t {t r : List UInt8} (ht : t ≠ []) (h : a0E r) : j9 (t ++ r) = j9 t := by
 rcases h with rfl | ⟨b, r', rfl, hb⟩
 ·rw [List.append_nil]
 ·obtain ⟨b1, b2, b3, b4⟩ := aq7 hb
  have hb : ∀ p : UInt8 → Bool, p b = false → (t ++ b :: r').takeWhile p = t.takeWhile p := fun p hp => ad6 p t _ (.inr ⟨b, r', rfl, hp⟩)
  unfold j9
  rw [hb j8 b1, hb t8 b2, hb k6 b3, ac4 ht, ad0 ht b4]
theorem a8g (p : UInt8 → Bool) (t u : List UInt8) : ((t ++ u).takeWhile p).count 58 ≤ t.count 58 + (u.takeWhile p).count 58 := by
 induction t with
 | nil => simp
 | cons c t ih =>
  rw [List.cons_append]
  by_cases hc : p c = true
  ·rw [List.takeWhile_cons_of_pos hc, List.count_cons, List.count_cons]
   omega
  ·rw [List.takeWhile_cons_of_neg hc]
   simp
theorem ae2 {t r : List UInt8} (ht : t ≠ []) (hc : 58 ∉ t) (h : a1a r) : j9 (t ++ r) = j9 t := by
 rcases h with h | ⟨d, r', rfl, hd⟩
 ·exact a5t ht h
 ·have hb : ∀ p : UInt8 → Bool, p 58 = false → (t ++ 58 :: d :: 93 :: r').takeWhile p = t.takeWhile p := fun p hp => ad6 p t _ (.inr ⟨58, _, rfl, hp⟩)
  have h0 : t.count 58 = 0 := List.count_eq_zero.2 hc
  have h1 : ¬ 2 ≤ ((t ++ 58 :: d :: 93 :: r').takeWhile j8).count 58 := by
   have := a8g j8 t (58 :: d :: 93 :: r')
   have h2 : ((58 :: d :: 93 :: r').takeWhile j8).count 58 ≤ 1 := by
    rw [List.takeWhile_cons_of_pos (by decide)]
    by_cases hs : j8 d = true
    ·rw [List.takeWhile_cons_of_pos hs, List.takeWhile_cons_of_neg (by decide), List.count_cons, List.count_cons]
     simp [hd]
    ·rw [List.takeWhile_cons_of_neg hs]
     decide
   omega
  have h3 : ¬ 2 ≤ (t.takeWhile j8).count 58 := by
   have := a8g j8 t []
   rw [List.append_nil] at this
   simp only [List.takeWhile_nil, List.count_nil] at this
   omega
  unfold j9
  rw [if_neg h1, if_neg h3, hb t8 (by decide), hb k6 (by decide), ac4 ht, ad0 ht (fun c => by simp [J6])]
theorem b0b {b : UInt8} (h6 : j8 b = false) (hd : D3 b = false) (hl : a0l b = false) (h1 : a0R.contains b = true) (h2 : ∀ c, ¬ ([b, c] ∈ J6)) (r : List UInt8) : j9 ([b] ++ r) = .ok (5, [b], 0) := by
 unfold j9
 have h0 : ([b] ++ r).takeWhile j8 = [] := List.takeWhile_cons_of_neg (by rw [h6]; simp)
 rw [h0]
 rw [if_neg (by decide), if_neg (by show ¬ D3 b = true; rw [hd]; simp), if_neg (by show ¬ a0l b = true; rw [hl]; simp)]
 have hs : K0 ([b] ++ r) = [b] := by
  unfold K0
  have h3 : ¬ (([b] ++ r).take 2 ∈ J6) := by
   cases r with
   | nil => show ¬ ([b] ∈ J6); simp [J6]
   | cons d m => exact h2 d
  rw [if_neg h3, if_pos (show ([b] ++ r).head?.all (a0R.contains ·) = true from h1)]
  rfl
 rw [hs, if_neg (by simp)]
theorem a3e {b : UInt8} (h6 : j8 b = false) (hd : D3 b = false) (hl : a0l b = false) (h1 : a0R.contains b = true) (h2 : ∀ c, ¬ ([b, c] ∈ J6)) : o5 [b] [kS [b]] (fun _ => True) :=
 a2y (k := kS [b]) fun _ _ => b0b h6 hd hl h1 h2 _
theorem aB8 : o5 [40] [kS [40]] (fun _ => True) := a3e (by decide) (by decide) (by decide) (by decide) (fun c => by simp [J6])
theorem aB9 : o5 [41] [kS [41]] (fun _ => True) := a3e (by decide) (by decide) (by decide) (by decide) (fun c => by simp [J6])
theorem aB7 : o5 [91] [kS [91]] (fun _ => True) := a3e (by decide) (by decide) (by decide) (by decide) (fun c => by simp [J6])
theorem a9g : o5 [93] [kS [93]] (fun _ => True) := a3e (by decide) (by decide) (by decide) (by decide) (fun c => by simp [J6])
theorem a9e : o5 [45] [kS [45]] (fun _ => True) := a3e (by decide) (by decide) (by decide) (by decide) (fun c => by simp [J6])
theorem aC0 : o5 [47] [kS [47]] (fun _ => True) := a3e (by decide) (by decide) (by decide) (by decide) (fun c => by simp [J6])
theorem aC1 {x : List UInt8} (h : j9 x = .ok (2, x, 0)) (hc : 58 ∉ x) : o5 x [kW x] a1a :=
 a2y (k := kW x) fun _ hr => (ae2 (Z2 h).1 hc hr).trans h
theorem a05 {x : List UInt8} (h : j9 x = .ok (2, x, 0)) : o5 x [kW x] a0E :=
 a2y (k := kW x) fun _ hr => (a5t (Z2 h).1 hr).trans h
theorem a9h {x : List UInt8} (h : j9 x = .ok (5, x, 0)) : o5 x [kS x] a0E :=
 a2y (k := kS x) fun _ hr => (a5t (Z2 h).1 hr).trans h
theorem a34 {c : UInt8} (h : D3 c = true) : c ≠ 58 ∧ c ≠ 46 ∧ k6 c = true ∧ t8 c = true ∧ c ≠ 120 := by
 refine ⟨?_, ?_, ?_, ?_, ?_⟩
 ·rintro rfl; revert h; decide
 ·rintro rfl; revert h; decide
 ·unfold k6; rw [h]; rfl
 ·unfold t8; rw [h]; rfl
 ·rintro rfl; revert h; decide
theorem ae3 {n : Nat} (h : n ≤ 4294967295) : j9 (dec n) = .ok (1, dec n, n) := by
 have h20 : n < 10 ^ 20 := by omega
 have hd := a3O n h20
 have hne := a5Z n h20
 have hv := a9A 4294967295 n h h20
 generalize dec n = s at *
 have hc : ¬ 2 ≤ (s.takeWhile j8).count 58 := by
  have : (s.takeWhile j8).count 58 = 0 := List.count_eq_zero.2 (fun hm => (a34 (hd _ ((List.takeWhile_sublist _).subset hm))).1 rfl)
  omega
 have h46 : ¬ 46 ∈ s.takeWhile t8 := fun hm => (a34 (hd _ ((List.takeWhile_sublist _).subset hm))).2.1 rfl
 have hw : s.takeWhile k6 = s := a7f k6 s (fun x hx => (a34 (hd x hx)).2.2.1)
 have hh : s.head?.any D3 = true := by
  cases s with
  | nil => exact absurd rfl hne
  | cons c r => exact hd c (List.mem_cons_self ..)
 have hn : a0Q s = some n := by
  unfold a0Q
  rw [if_neg ?_]
  ·exact hv
  ·rintro ⟨h2, -, hx⟩
   match s, h2, hx with
   | a :: b :: r, _, hx =>
    have hx : b = 120 := hx
    exact (a34 (hd b (by simp))).2.2.2.2 hx
 unfold j9
 rw [if_neg hc, if_pos hh, if_neg h46, hw, hn]
theorem ap7 {n : Nat} (h : n ≤ 4294967295) : 58 ∉ dec n := fun hm => (a34 (a3O n (by omega) _ hm)).1 rfl
theorem a25 {n : Nat} (h : n ≤ 4294967295) : o5 (dec n) [kN n] a1a :=
 a2y (k := kN n) fun _ hr => (ae2 (Z2 (ae3 h)).1 (ap7 h) hr).trans (ae3 h)
theorem a6p {b : UInt8} : ∀ {ls : List (List UInt8)} {c : UInt8}, c ∈ k8 b ls → c = b ∨ ∃ l ∈ ls, c ∈ l
 | [], c, h => by cases h
 | [x], c, h => .inr ⟨x, by simp, by rw [a3T] at h; exact h⟩
 | x :: y :: r, c, h => by
  rw [a3b] at h
  rcases List.mem_append.1 h with h | h
  ·exact .inr ⟨x, by simp, h⟩
  ·rcases List.mem_cons.1 h with h | h
   ·exact .inl h
   ·rcases a6p h with h | ⟨l, hl, h⟩
    ·exact .inl h
    ·exact .inr ⟨l, List.mem_cons_of_mem _ hl, h⟩
theorem ae5 {a : List UInt8} (h : a.length = 4) : j9 (S8 a) = .ok (3, S8 a, 0) := by
 have hlt : ∀ x : UInt8, x.toNat < 10 ^ 20 := fun x => by have := x.toNat_lt; omega
 have hm : ∀ c ∈ S8 a, c = 46 ∨ D3 c = true := fun c hc => by
  rcases a6p hc with h | ⟨l, hl, h⟩
  ·exact .inl h
  ·obtain ⟨x, -, rfl⟩ := List.mem_map.1 hl
   exact .inr (a3O _ (hlt x) c h)
 have hc : ¬ 2 ≤ ((S8 a).takeWhile j8).count 58 := by
  have : ((S8 a).takeWhile j8).count 58 = 0 := List.count_eq_zero.2 (fun hq => by
   rcases hm _ ((List.takeWhile_sublist _).subset hq) with h | h
   ·revert h; decide
   ·revert h; decide)
  omega
 have hq : (S8 a).takeWhile t8 = S8 a := a7f t8 _ (fun c hc => by
  rcases hm c hc with rfl | h
  ·decide
  ·exact (a34 h).2.2.2.1)
 match a, h with
 | [x, y, z, u], _ =>
  have hp : S8 [x, y, z, u] = dec x.toNat ++ 46 :: k8 46 [dec y.toNat, dec z.toNat, dec u.toNat] := by
   unfold S8
   rw [List.map_cons, List.map_cons, a3b]
   rfl
  have hh : (S8 [x, y, z, u]).head?.any D3 = true := by
   rw [hp]
   have h1 := a5Z x.toNat (hlt x)
   have h2 := a3O x.toNat (hlt x)
   generalize dec x.toNat = s at *
   cases s with
   | nil => exact absurd rfl h1
   | cons c r => exact h2 c (List.mem_cons_self ..)
  have h46 : 46 ∈ S8 [x, y, z, u] := by rw [hp]; simp
  unfold j9
  rw [if_neg hc, if_pos hh, hq, if_pos h46]
theorem a94 : ∀ (ls : List (List UInt8)), ls.length ≤ (k8 58 ls).count 58 + 1
 | [] => by decide
 | [x] => by simp
 | x :: y :: r => by
  have := a94 (y :: r)
  rw [a3b, List.count_append, List.count_cons]
  simp only [List.length_cons] at this ⊢
  simp
  omega
theorem ad4 : ∀ {l : List UInt8} {c : UInt8}, c ∈ a18 l → c ∈ l
 | [], c, h => h
 | a :: r, c, h => by
  unfold a18 at h
  split at h
  ·exact List.mem_cons_of_mem _ (ad4 h)
  ·exact h
theorem aU5 {g : Nat} {c : UInt8} (h : c ∈ f8 g) : j8 c = true := by
 have h := ad4 h
 have key : ∀ n, n < 16 → j8 (I0 n) = true := fun n hn => by
  unfold j8
  rw [(a23 hn).1]
  rfl
 unfold a1g at h
 simp only [List.mem_cons, List.not_mem_nil, or_false] at h
 rcases h with rfl | rfl | rfl | rfl
 ·exact key _ (Nat.mod_lt _ (by decide))
 ·exact key _ (Nat.mod_lt _ (by decide))
 ·exact key _ (Nat.mod_lt _ (by decide))
 ·exact key _ (Nat.mod_lt _ (by decide))
theorem ad1 {gs : List Nat} (h8 : gs.length = 8) : j9 (Z0 gs) = .ok (4, Z0 gs, 0) := by
 have hj : ∀ (l : List Nat) (c : UInt8), c ∈ k8 58 (l.map f8) → j8 c = true := fun l c hc => by
  rcases a6p hc with rfl | ⟨x, hx, h⟩
  ·decide
  ·obtain ⟨g, -, rfl⟩ := List.mem_map.1 hx
   exact aU5 h
 have hm : (∀ c ∈ Z0 gs, j8 c = true) ∧ 2 ≤ (Z0 gs).count 58 := by
  unfold Z0
  cases V8 0 gs none with
  | none =>
   refine ⟨hj gs, ?_⟩
   have := a94 (gs.map f8)
   rw [List.length_map, h8] at this
   show 2 ≤ (k8 58 (gs.map f8)).count 58
   omega
  | some p =>
   refine ⟨fun c hc => ?_, ?_⟩
   ·rcases List.mem_append.1 hc with h | h
    ·exact hj _ c h
    ·rcases List.mem_cons.1 h with rfl | h
     ·decide
     ·rcases List.mem_cons.1 h with rfl | h
      ·decide
      ·exact hj _ c h
   ·show 2 ≤ (k8 58 ((gs.take p.1).map f8) ++ (58 :: 58 :: k8 58 ((gs.drop (p.1 + p.2)).map f8))).count 58
    rw [List.count_append, List.count_cons, List.count_cons]
    simp
    omega
 have hw := a7f j8 (Z0 gs) hm.1
 unfold j9
 rw [hw, if_pos hm.2]
theorem a6A {k : Int} (h : 1 ≤ k ∧ k ≤ 13) : j6 k ≠ [] := by
 have key : ∀ j : Fin 14, 1 ≤ j.val → j6 (j.val : Int) ≠ [] := by decide
 have := key ⟨k.toNat, by omega⟩ (by show 1 ≤ k.toNat; omega)
 rw [show ((⟨k.toNat, by omega⟩ : Fin 14).val : Int) = k from Int.toNat_of_nonneg (by omega)] at this
 exact this
theorem a77 (k : Int) : a0u k = if T6 k = [] then [] else T6 k ++ [32] := by
 unfold a0u T6
 by_cases h1 : k = 1
 ·rw [if_pos h1, if_pos h1]; rfl
 ·rw [if_neg h1, if_neg h1]
  by_cases h2 : k = 2
  ·rw [if_pos h2, if_pos h2]; rfl
  ·rw [if_neg h2, if_neg h2]; rfl
theorem aV3 (k : Int) : (T6 k).length ≤ 3 := by
 unfold T6
 repeat' split
 all_goals decide
theorem a5G (x : List UInt8) : wv [] x = x := by
 unfold wv
 split
 ·rename_i h; exact h.symm
 ·rfl
theorem a2U {a x : List UInt8} (ha : a ≠ []) (hx : x ≠ []) : wv a x = a ++ 32 :: x := by
 unfold wv
 rw [if_neg hx, if_neg ha]
theorem b1h (a : List UInt8) : wv a [] = a := by unfold wv; rw [if_pos rfl]
theorem af9 (a b c : List UInt8) : P9 [a, b, c] = wv (wv a b) c := by
 show wv (wv (wv [] a) b) c = _
 rw [a5G]
theorem a5D {a b c : List UInt8} (hb : b ≠ []) (hc : c ≠ []) : P9 [a, b, c] = (if a = [] then [] else a ++ [32]) ++ b ++ [32] ++ c := by
 rw [af9]
 by_cases ha : a = []
 ·rw [ha, a5G, a2U hb hc, if_pos rfl]; simp
 ·rw [a2U ha hb, a2U (by simp) hc, if_neg ha]; simp
theorem b1a {a b c : List UInt8} (hc : c ≠ []) : P9 [a, b, c] = (if a = [] then [] else a ++ [32]) ++ (if b = [] then [] else b ++ [32]) ++ c := by
 rw [af9]
 by_cases ha : a = []
 ·rw [ha, a5G, if_pos rfl]
  by_cases hb : b = []
  ·rw [hb, a5G, if_pos rfl]; simp
  ·rw [a2U hb hc, if_neg hb]; simp
 ·rw [if_neg ha]
  by_cases hb : b = []
  ·rw [hb, b1h, a2U ha hc, if_pos rfl]; simp
  ·rw [a2U ha hb, a2U (by simp) hc, if_neg hb]; simp
theorem aP5 (n m : Nat) : a09 n m ≠ [] := by
 unfold a09
 split <;> simp
theorem ah5 (x : Ng) (h : (l0 x).length = 16) : I2 x ≠ [] := by
 unfold I2
 split
 ·have := Z2 (ad1 (gs := d8 (l0 x)) (a3q 8 _ h))
  exact this.1
 ·have := Z2 (ae5 (a := (l0 x).take 4) (by rw [List.length_take, h]; rfl))
  exact this.1
theorem a3X (a b c : ByteArray) (W : World) : (Instr.buildSlice 82 3 #[(0, .string a), (1, .string b), (2, .string c)]).run Tryz.prog W = .ok (.slice (some ⟨W.heap.size, 0, none⟩) 3 3) (W.alloc (.cells [Value.string a, Value.string b, Value.string c].toArray 9)) := by kernel_rfl
theorem aU4 (x : Ng) (w : World) (T : j4 w) (ha : arG x.kind = some 0) (hf : O0 x = true) (hr : o7 x = 0) (hn : x.n ≤ 4294967295) (hm : x.m ≤ 4294967295) :
  Calls Tryz.prog 103 #[.agg x.cells.toArray] w fun e w' => e = .returned (str (l9 x)) ∧ w.grownBy w' none := by
 have HT : Hid (j4 w) := T
 clear T
 have hk : x.kind = 1 ∨ x.kind = 2 ∨ x.kind = 10 ∨ x.kind = 11 ∨ x.kind = 12 ∨ x.kind = 13 ∨ x.kind = 14 ∨ x.kind = 15 ∨ x.kind = 16 := by
  rcases Z8 ha with ⟨h1, -⟩ | ⟨h1, -⟩ | ⟨-, h1⟩
  ·cases h1
  ·cases h1
  ·exact h1
 obtain ⟨g1, g2, g3, g4, g5, g6, g10, -⟩ := a2q hf hr
 have h12 : x.kind = 12 → x.of = 0 := fun hk => by
  unfold O0 at hf
  obtain ⟨hs, -⟩ := Bool.and_eq_true_iff.1 hf
  unfold a2e at hs
  simp only [Bool.and_eq_true, decide_eq_true_eq] at hs
  have := hs.1.1.1.2
  rw [this]
  unfold j3
  rw [hk]
  rfl
 have h13 : x.kind = 13 → 1 ≤ x.of ∧ x.of ≤ 13 := fun hk => by
  unfold O0 at hf
  obtain ⟨-, hm⟩ := Bool.and_eq_true_iff.1 hf
  unfold m4 at hm
  rw [hk] at hm
  have := (show inG x.of 2 3 = true from hm)
  unfold inG at this
  have := Bool.and_eq_true_iff.1 this
  have h1 := of_decide_eq_true this.1
  have h2 := of_decide_eq_true this.2
  omega
 have HBX := z8 x
 have h3 := World.grownBy_alloc w (.cells x.cells.toArray 43) none
 have V := NB.alloc w x
 have HAL : Hid ((l0 x).length = 16) := a0F x
 obtain ⟨X, hX⟩ : ∃ X, x.cells.toArray = X := ⟨_, rfl⟩
 have HZ : Hid ((Tryz.prog.info? 43).map (·.size) = some X.size) := by rw [← hX]; exact I9 x
 have HXX : Hid (x.cells.toArray = X) := hX
 rw [hX] at HBX ⊢
 go_enter Tryz.func103, Tryz.ntmps103
 go_upto_region 1 with fail
 rw [← hX] at HBX ⊢
 rw [← hX] at hX
 have HNB : Hid (NB (w.alloc (.cells x.cells.toArray 43)) w.heap.size x ∧ w.grownBy (w.alloc (.cells x.cells.toArray 43)) none) := ⟨V, h3⟩
 generalize w.alloc (.cells x.cells.toArray 43) = w1 at *
 generalize w.heap.size = B at *
 have HV : Hid (∀ W, w1.grownBy W none → VAt W B 43 X) := fun W G => by rw [← HXX.out]; exact HNB.out.1.kept G
 have HC : Hid (∀ W, w1.grownBy W none → W.cell? ⟨B, 2, none⟩ = some (.int .u32 (x.n : Int)) ∧ W.cell? ⟨B, 3, none⟩ = some (.int .u32 (x.m : Int)) ∧ W.cell? ⟨B, 5, none⟩ = some (.int .i64 x.of) ∧ W.cell? ⟨B, 6, none⟩ = some (.int .i64 x.side) ∧ W.cell? ⟨B, 23, none⟩ = some (.int .i64 x.bits)) := fun W G => by
  have N := HNB.out.1.kept G
  exact ⟨N.n, N.m, N.of, N.side, N.bits⟩
 have HG1 : Hid (w.grownBy w1 none) := HNB.out.2
 have HT1 : Hid (∀ W, w1.grownBy W none → j4 W) := fun W G => HT.out.grown (d3 HG1.out G)
 have HDEC : Hid (∀ W : World, w1.grownBy W none → Calls Tryz.prog 134 #[.int .u32 (x.n : Int)] W fun e w' => e = .returned (str (dec x.n)) ∧ W.grownBy w' none) := fun W G => a5k x.n hn W (HT1.out W G)
 have HADR : Hid (∀ W : World, w1.grownBy W none → Calls Tryz.prog 138 #[.agg X] W fun e w' => e = .returned (str (I2 x)) ∧ W.grownBy w' none) := fun W G => by rw [← HXX.out]; exact aU1 x W (HT1.out W G)
 have HPRT : Hid (∀ W : World, w1.grownBy W none → Calls Tryz.prog 139 #[.int .u32 (x.n : Int), .int .u32 (x.m : Int)] W fun e w' => e = .returned (str (a09 x.n x.m)) ∧ W.grownBy w' none) := fun W G => aV1 x.n x.m hn hm W (HT1.out W G)
 have HITO : Hid (∀ W : World, w1.grownBy W none → Calls Tryz.prog 130 #[.int .i64 x.bits] W fun e w' => e = .returned (str (dec x.bits.toNat)) ∧ W.grownBy w' none) := fun W G => by
  have := a93 x.bits.toNat (by omega) W (HT1.out W G)
  rw [show ((x.bits.toNat : Nat) : Int) = x.bits by omega] at this
  exact this
 have HWD : Hid (∀ (a b c : List UInt8), a.length ≤ 2000 → b.length ≤ 2000 → c.length ≤ 2000 → ∀ (ad : Addr) (W : World), CV W (some ad) [str a, str b, str c] → Calls Tryz.prog 136 #[.slice (some ad) 3 3] W fun e w' => e = .returned (str (P9 [a, b, c])) ∧ W.grownBy w' none) := fun a b c h1 h2 h3 ad W C => a7r (some ad) 3 [a, b, c] W C (by simp) (fun y hy => by
  simp only [List.mem_cons, List.not_mem_nil, or_false] at hy
  rcases hy with rfl | rfl | rfl <;> omega)
 have hnl := U3 x.n
 have hbl := U3 x.bits.toNat
 have hal := a7F x
 have hol := a3g x.of
 have hsl := aV3 x.side
 have hpl := aP4 x.n x.m
 have HLEN : Hid ((dec x.n).length ≤ 20 ∧ (dec x.bits.toNat).length ≤ 20 ∧ (I2 x).length ≤ 1000 ∧ (j6 x.of).length ≤ 5 ∧ (T6 x.side).length ≤ 3 ∧ (a09 x.n x.m).length ≤ 60) := ⟨hnl, hbl, hal, hol, hsl, hpl⟩
 have c0 := HNB.out.1.kind
 obtain ⟨kk, hkk⟩ : ∃ kk, x.kind = kk := ⟨_, rfl⟩
 have HK : Hid (x.kind = kk) := hkk
 rw [hkk] at c0 hk h12 h13 g10
 have HF : Hid ((1 : Int) ≤ x.side → x.side ≤ 2 → True) := fun _ _ => trivial
 have HOF : Hid ((kk = 12 → x.of = 0) ∧ (kk = 13 → 1 ≤ x.of ∧ x.of ≤ 13) ∧ 0 ≤ x.of ∧ x.of ≤ 13 ∧ x.n ≤ 4294967295 ∧ x.bits.toNat ≤ 128 ∧ 0 ≤ x.side ∧ x.side ≤ 2 ∧ (kk = 10 → x.side ≠ 0)) := ⟨h12, h13, g3, g4, hn, by omega, g1, g2, g10⟩
 clear hnl hbl hal hol hsl hpl hX h3 V HBX hkk h12 h13 g1 g2 g3 g4 g5 g6 g10 hf hr ha hn hm HF
 rcases hk with rfl | rfl | rfl | rfl | rfl | rfl | rfl | rfl | rfl
 ·skip
  have HE : Hid (l9 x = dec x.n) := by unfold Hid l9; rw [HK.out]; rfl
  have c2 := (HC.out w1 (World.grownBy.refl _ _)).1
  go_wp2_with fail
  refine (HDEC.out w1 (World.grownBy.refl _ _)).mono ?_
  rintro e w3 ⟨rfl, K3⟩
  go_wp2
  go_ret
  exact ⟨by rw [HE.out]; rfl, d3 HG1.out K3⟩
 ·skip
  have HE : Hid (l9 x = [108, 101, 110]) := by unfold Hid l9; rw [HK.out]; rfl
  go_wp2
  go_ret
  exact ⟨by rw [HE.out]; rfl, HG1.out⟩
 ·skip
  have HE : Hid (l9 x = a4i x.side) := by unfold Hid l9 a4i; rw [HK.out]; rfl
  have c6 := (HC.out w1 (World.grownBy.refl _ _)).2.2.2.1
  go_wp2_with fail
  refine (b0S x.side w1).mono ?_
  rintro e w3 ⟨rfl, rfl⟩
  go_wp2
  go_ret
  exact ⟨by rw [HE.out]; rfl, HG1.out⟩
 ·skip
  have HE : Hid (l9 x = j6 x.of) := by unfold Hid l9; rw [HK.out]; rfl
  have c5 := (HC.out w1 (World.grownBy.refl _ _)).2.2.1
  go_wp2_with fail
  refine (a47 x.of w1).mono ?_
  rintro e w3 ⟨rfl, rfl⟩
  go_wp2
  go_ret
  exact ⟨by rw [HE.out]; rfl, HG1.out⟩
 ·skip
  have HE : Hid (l9 x = P9 [j6 x.of, [112, 114, 111, 116, 111], dec x.n]) := by
   show l9 x = _
   rw [a5D (by simp) (a60 x.n HOF.out.2.2.2.2.1), HOF.out.1 rfl]
   unfold l9
   rw [HK.out]
   rfl
  go_upto_region 12 with fail
  refine wp_region_held_drew (S := fun W' => w1.grownBy W' none) (by kernel_rfl) (f4 w1 1 none) (fun hHeld => ?_)
  generalize w1.drew = wd at *
  refine wpT (i := 0) (v := .pointer (some ⟨B, 5, none⟩)) rfl (Or.inl ⟨by rfl, fun W hW => ?_⟩) hHeld ?_
  ·clear hW
   go_simp
  try simp only [Act.put, a0, a1, a3, a4, a5]
  refine wpT (i := 1) (v := .int .i64 x.of) rfl (Or.inl ⟨by rfl, fun W hW => ?_⟩) hHeld ?_
  ·have c1 := (HC.out W hW).2.2.1
   clear hW
   go_simp
  try simp only [Act.put, a0, a1, a2, a3, a4, a5]
  refine wpT (i := 3) (v := .pointer (some ⟨B, 2, none⟩)) rfl (Or.inl ⟨by rfl, fun W hW => ?_⟩) hHeld ?_
  ·clear hW
   go_simp
  try simp only [Act.put, a0, a1, a2, a3, a4, a5]
  refine wpT (i := 4) (v := .int .u32 (x.n : Int)) rfl (Or.inl ⟨by rfl, fun W hW => ?_⟩) hHeld ?_
  ·have c1 := (HC.out W hW).1
   clear hW
   go_simp
  try simp only [Act.put, a0, a1, a2, a3, a4, a5]
  refine wpR (rs := [2]) (AllReadyH.cons rfl (fun K hK => ?_) AllReadyH.nil)
  go_simp
  refine (a47 x.of _).mono ?_
  rintro e _ ⟨rfl, rfl⟩
  go_wp2_with fail
  refine hK.out _ _ hHeld (fun hHeld => ?_)
  clear hK K
  try simp only [Act.put, a0, a1, a2, a3, a4, a5]
  refine wpR (rs := [5]) (AllReadyH.cons rfl (fun K hK => ?_) AllReadyH.nil)
  go_simp
  refine (HDEC.out _ hHeld).mono ?_
  rintro e wk ⟨rfl, Kk⟩
  go_wp2_with fail
  refine hK.out _ _ (d3 hHeld Kk) (fun hHeld => ?_)
  clear hK K Kk
  try simp only [Act.put, a0, a1, a2, a3, a4, a5]
  refine wpR (rs := [6]) (AllReadyH.cons rfl (fun K hK => ?_) AllReadyH.nil)
  refine a4b (by rfl) 82 3 _ (by rfl) _ (by kernel_rfl) [str (j6 x.of), str ([112, 114, 111, 116, 111]), str (dec x.n)] 9 (a3X _ _ _) ?_
  intro ad wl CL KL
  refine hK.out _ _ (d3 hHeld KL) (fun hHeld => ?_)
  clear hK K KL
  try simp only [Act.put, a0, a1, a2, a3, a4, a5]
  refine wpR (rs := [7]) (AllReadyH.cons rfl (fun K hK => ?_) AllReadyH.nil)
  go_simp
  refine (HWD.out (j6 x.of) ([112, 114, 111, 116, 111]) (dec x.n) (by have := HLEN.out; first | omega | simp) (by have := HLEN.out; first | omega | simp) (by have := HLEN.out; first | omega | (simp only [List.length_append, List.length_cons, List.length_nil]; omega)) _ _ CL).mono ?_
  rintro e wk ⟨rfl, Kk⟩
  go_wp2_with fail
  refine hK.out _ _ (d3 hHeld Kk) (fun hHeld => ?_)
  clear hK K Kk CL
  try simp only [Act.put, a0, a1, a2, a3, a4, a5]
  refine wpT (i := 8) (v := str (P9 [j6 x.of, [112, 114, 111, 116, 111], dec x.n])) rfl (Or.inl ⟨by rfl, fun W hW => ?_⟩) hHeld ?_
  ·clear hW
   go_simp
  try simp only [Act.put, a0, a1, a2, a3, a4, a5]
  refine wpAnyH_done (by kernel_rfl) ?_ _
  have HGF := hHeld
  clear hHeld
  go_wp2
  go_ret
  exact ⟨by rw [HE.out]; rfl, d3 HG1.out HGF⟩
 ·skip
  have HE : Hid (l9 x = P9 [j6 x.of, [112, 114, 111, 116, 111], dec x.n]) := by
   show l9 x = _
   rw [a5D (by simp) (a60 x.n HOF.out.2.2.2.2.1), if_neg (a6A (HOF.out.2.1 rfl))]
   unfold l9
   rw [HK.out]
   show j6 x.of ++ [32, 112, 114, 111, 116, 111, 32] ++ dec x.n = _
   simp
  go_upto_region 12 with fail
  refine wp_region_held_drew (S := fun W' => w1.grownBy W' none) (by kernel_rfl) (f4 w1 1 none) (fun hHeld => ?_)
  generalize w1.drew = wd at *
  refine wpT (i := 0) (v := .pointer (some ⟨B, 5, none⟩)) rfl (Or.inl ⟨by rfl, fun W hW => ?_⟩) hHeld ?_
  ·clear hW
   go_simp
  try simp only [Act.put, a0, a1, a3, a4, a5]
  refine wpT (i := 1) (v := .int .i64 x.of) rfl (Or.inl ⟨by rfl, fun W hW => ?_⟩) hHeld ?_
  ·have c1 := (HC.out W hW).2.2.1
   clear hW
   go_simp
  try simp only [Act.put, a0, a1, a2, a3, a4, a5]
  refine wpT (i := 3) (v := .pointer (some ⟨B, 2, none⟩)) rfl (Or.inl ⟨by rfl, fun W hW => ?_⟩) hHeld ?_
  ·clear hW
   go_simp
  try simp only [Act.put, a0, a1, a2, a3, a4, a5]
  refine wpT (i := 4) (v := .int .u32 (x.n : Int)) rfl (Or.inl ⟨by rfl, fun W hW => ?_⟩) hHeld ?_
  ·have c1 := (HC.out W hW).1
   clear hW
   go_simp
  try simp only [Act.put, a0, a1, a2, a3, a4, a5]
  refine wpR (rs := [2]) (AllReadyH.cons rfl (fun K hK => ?_) AllReadyH.nil)
  go_simp
  refine (a47 x.of _).mono ?_
  rintro e _ ⟨rfl, rfl⟩
  go_wp2_with fail
  refine hK.out _ _ hHeld (fun hHeld => ?_)
  clear hK K
  try simp only [Act.put, a0, a1, a2, a3, a4, a5]
  refine wpR (rs := [5]) (AllReadyH.cons rfl (fun K hK => ?_) AllReadyH.nil)
  go_simp
  refine (HDEC.out _ hHeld).mono ?_
  rintro e wk ⟨rfl, Kk⟩
  go_wp2_with fail
  refine hK.out _ _ (d3 hHeld Kk) (fun hHeld => ?_)
  clear hK K Kk
  try simp only [Act.put, a0, a1, a2, a3, a4, a5]
  refine wpR (rs := [6]) (AllReadyH.cons rfl (fun K hK => ?_) AllReadyH.nil)
  refine a4b (by rfl) 82 3 _ (by rfl) _ (by kernel_rfl) [str (j6 x.of), str ([112, 114, 111, 116, 111]), str (dec x.n)] 9 (a3X _ _ _) ?_
  intro ad wl CL KL
  refine hK.out _ _ (d3 hHeld KL) (fun hHeld => ?_)
  clear hK K KL
  try simp only [Act.put, a0, a1, a2, a3, a4, a5]
  refine wpR (rs := [7]) (AllReadyH.cons rfl (fun K hK => ?_) AllReadyH.nil)
  go_simp
  refine (HWD.out (j6 x.of) ([112, 114, 111, 116, 111]) (dec x.n) (by have := HLEN.out; first | omega | simp) (by have := HLEN.out; first | omega | simp) (by have := HLEN.out; first | omega | (simp only [List.length_append, List.length_cons, List.length_nil]; omega)) _ _ CL).mono ?_
  rintro e wk ⟨rfl, Kk⟩
  go_wp2_with fail
  refine hK.out _ _ (d3 hHeld Kk) (fun hHeld => ?_)
  clear hK K Kk CL
  try simp only [Act.put, a0, a1, a2, a3, a4, a5]
  refine wpT (i := 8) (v := str (P9 [j6 x.of, [112, 114, 111, 116, 111], dec x.n])) rfl (Or.inl ⟨by rfl, fun W hW => ?_⟩) hHeld ?_
  ·clear hW
   go_simp
  try simp only [Act.put, a0, a1, a2, a3, a4, a5]
  refine wpAnyH_done (by kernel_rfl) ?_ _
  have HGF := hHeld
  clear hHeld
  go_wp2
  go_ret
  exact ⟨by rw [HE.out]; rfl, d3 HG1.out HGF⟩
 ·skip
  have HE : Hid (l9 x = P9 [T6 x.side, [104, 111, 115, 116], I2 x]) := by
   show l9 x = _
   rw [a5D (by simp) (ah5 x HAL.out)]
   unfold l9
   rw [HK.out]
   show a0u x.side ++ [104, 111, 115, 116, 32] ++ I2 x = _
   rw [a77]
   simp
  go_upto_region 14 with fail
  refine wp_region_held_drew (S := fun W' => w1.grownBy W' none) (by kernel_rfl) (f4 w1 1 none) (fun hHeld => ?_)
  generalize w1.drew = wd at *
  refine wpT (i := 0) (v := .pointer (some ⟨B, 6, none⟩)) rfl (Or.inl ⟨by rfl, fun W hW => ?_⟩) hHeld ?_
  ·clear hW
   go_simp
  try simp only [Act.put, a0, a1, a3, a4, a5]
  refine wpT (i := 1) (v := .int .i64 x.side) rfl (Or.inl ⟨by rfl, fun W hW => ?_⟩) hHeld ?_
  ·have c1 := (HC.out W hW).2.2.2.1
   clear hW
   go_simp
  try simp only [Act.put, a0, a1, a2, a3, a4, a5]
  refine wpT (i := 3) (v := .agg (X)) rfl (M6 (by rfl) _ _ rfl B rfl 43 (X) _ (fun W hW => HV.out W hW) Tryz.underlying43 rfl HZ.out) hHeld ?_
  try simp only [Act.put, a0, a1, a2, a3, a4, a5]
  refine wpR (rs := [2]) (AllReadyH.cons rfl (fun K hK => ?_) AllReadyH.nil)
  go_simp
  refine (a71 x.side _).mono ?_
  rintro e _ ⟨rfl, rfl⟩
  go_wp2_with fail
  refine hK.out _ _ hHeld (fun hHeld => ?_)
  clear hK K
  try simp only [Act.put, a0, a1, a2, a3, a4, a5]
  refine wpR (rs := [4]) (AllReadyH.cons rfl (fun K hK => ?_) AllReadyH.nil)
  go_simp
  refine (HADR.out _ hHeld).mono ?_
  rintro e wk ⟨rfl, Kk⟩
  go_wp2_with fail
  refine hK.out _ _ (d3 hHeld Kk) (fun hHeld => ?_)
  clear hK K Kk
  try simp only [Act.put, a0, a1, a2, a3, a4, a5]
  refine wpR (rs := [5]) (AllReadyH.cons rfl (fun K hK => ?_) AllReadyH.nil)
  refine a4b (by rfl) 82 3 _ (by rfl) _ (by kernel_rfl) [str (T6 x.side), str ([104, 111, 115, 116]), str (I2 x)] 9 (a3X _ _ _) ?_
  intro ad wl CL KL
  refine hK.out _ _ (d3 hHeld KL) (fun hHeld => ?_)
  clear hK K KL
  try simp only [Act.put, a0, a1, a2, a3, a4, a5]
  refine wpR (rs := [6]) (AllReadyH.cons rfl (fun K hK => ?_) AllReadyH.nil)
  go_simp
  refine (HWD.out (T6 x.side) ([104, 111, 115, 116]) (I2 x) (by have := HLEN.out; first | omega | simp) (by have := HLEN.out; first | omega | simp) (by have := HLEN.out; first | omega | (simp only [List.length_append, List.length_cons, List.length_nil]; omega)) _ _ CL).mono ?_
  rintro e wk ⟨rfl, Kk⟩
  go_wp2_with fail
  refine hK.out _ _ (d3 hHeld Kk) (fun hHeld => ?_)
  clear hK K Kk CL
  try simp only [Act.put, a0, a1, a2, a3, a4, a5]
  refine wpT (i := 7) (v := str (P9 [T6 x.side, [104, 111, 115, 116], I2 x])) rfl (Or.inl ⟨by rfl, fun W hW => ?_⟩) hHeld ?_
  ·clear hW
   go_simp
  try simp only [Act.put, a0, a1, a2, a3, a4, a5]
  refine wpAnyH_done (by kernel_rfl) ?_ _
  have HGF := hHeld
  clear hHeld
  go_wp2
  go_ret
  exact ⟨by rw [HE.out]; rfl, d3 HG1.out HGF⟩
 ·skip
  have HE : Hid (l9 x = P9 [T6 x.side, [110, 101, 116], I2 x ++ [47] ++ dec x.bits.toNat]) := by
   show l9 x = _
   rw [a5D (by simp) (by simp)]
   unfold l9
   rw [HK.out]
   show a0u x.side ++ [110, 101, 116, 32] ++ I2 x ++ [47] ++ dec x.bits.toNat = _
   rw [a77]
   simp
  go_upto_region 16 with fail
  refine wp_region_held_drew (S := fun W' => w1.grownBy W' none) (by kernel_rfl) (f4 w1 1 none) (fun hHeld => ?_)
  generalize w1.drew = wd at *
  refine wpT (i := 0) (v := .pointer (some ⟨B, 6, none⟩)) rfl (Or.inl ⟨by rfl, fun W hW => ?_⟩) hHeld ?_
  ·clear hW
   go_simp
  try simp only [Act.put, a0, a1, a3, a4, a5]
  refine wpT (i := 1) (v := .int .i64 x.side) rfl (Or.inl ⟨by rfl, fun W hW => ?_⟩) hHeld ?_
  ·have c1 := (HC.out W hW).2.2.2.1
   clear hW
   go_simp
  try simp only [Act.put, a0, a1, a2, a3, a4, a5]
  refine wpT (i := 3) (v := .agg (X)) rfl (M6 (by rfl) _ _ rfl B rfl 43 (X) _ (fun W hW => HV.out W hW) Tryz.underlying43 rfl HZ.out) hHeld ?_
  try simp only [Act.put, a0, a1, a2, a3, a4, a5]
  refine wpT (i := 6) (v := .pointer (some ⟨B, 23, none⟩)) rfl (Or.inl ⟨by rfl, fun W hW => ?_⟩) hHeld ?_
  ·clear hW
   go_simp
  try simp only [Act.put, a0, a1, a2, a3, a4, a5]
  refine wpT (i := 7) (v := .int .i64 x.bits) rfl (Or.inl ⟨by rfl, fun W hW => ?_⟩) hHeld ?_
  ·have c1 := (HC.out W hW).2.2.2.2
   clear hW
   go_simp
  try simp only [Act.put, a0, a1, a2, a3, a4, a5]
  refine wpR (rs := [2]) (AllReadyH.cons rfl (fun K hK => ?_) AllReadyH.nil)
  go_simp
  refine (a71 x.side _).mono ?_
  rintro e _ ⟨rfl, rfl⟩
  go_wp2_with fail
  refine hK.out _ _ hHeld (fun hHeld => ?_)
  clear hK K
  try simp only [Act.put, a0, a1, a2, a3, a4, a5]
  refine wpR (rs := [4]) (AllReadyH.cons rfl (fun K hK => ?_) AllReadyH.nil)
  go_simp
  refine (HADR.out _ hHeld).mono ?_
  rintro e wk ⟨rfl, Kk⟩
  go_wp2_with fail
  refine hK.out _ _ (d3 hHeld Kk) (fun hHeld => ?_)
  clear hK K Kk
  try simp only [Act.put, a0, a1, a2, a3, a4, a5]
  refine wpT (i := 5) (v := str (I2 x ++ [47])) rfl (Or.inl ⟨by rfl, fun W hW => ?_⟩) hHeld ?_
  ·clear hW
   go_simp
   have hq := HLEN.out
   rw [if_neg (by omega), show (⟨#[47]⟩ : ByteArray) = ⟨([47] : List UInt8).toArray⟩ from rfl, a7e]
  try simp only [Act.put, a0, a1, a2, a3, a4, a5]
  refine wpR (rs := [8]) (AllReadyH.cons rfl (fun K hK => ?_) AllReadyH.nil)
  go_simp
  refine (HITO.out _ hHeld).mono ?_
  rintro e wk ⟨rfl, Kk⟩
  go_wp2_with fail
  refine hK.out _ _ (d3 hHeld Kk) (fun hHeld => ?_)
  clear hK K Kk
  try simp only [Act.put, a0, a1, a2, a3, a4, a5]
  refine wpT (i := 9) (v := str (I2 x ++ [47] ++ dec x.bits.toNat)) rfl (Or.inl ⟨by rfl, fun W hW => ?_⟩) hHeld ?_
  ·clear hW
   go_simp
   have hq := HLEN.out
   (rw [if_neg (by omega), a7e, List.append_assoc]; rfl)
  try simp only [Act.put, a0, a1, a2, a3, a4, a5]
  refine wpR (rs := [10]) (AllReadyH.cons rfl (fun K hK => ?_) AllReadyH.nil)
  refine a4b (by rfl) 82 3 _ (by rfl) _ (by kernel_rfl) [str (T6 x.side), str ([110, 101, 116]), str (I2 x ++ [47] ++ dec x.bits.toNat)] 9 (a3X _ _ _) ?_
  intro ad wl CL KL
  refine hK.out _ _ (d3 hHeld KL) (fun hHeld => ?_)
  clear hK K KL
  try simp only [Act.put, a0, a1, a2, a3, a4, a5]
  refine wpR (rs := [11]) (AllReadyH.cons rfl (fun K hK => ?_) AllReadyH.nil)
  go_simp
  refine (HWD.out (T6 x.side) ([110, 101, 116]) (I2 x ++ [47] ++ dec x.bits.toNat) (by have := HLEN.out; first | omega | simp) (by have := HLEN.out; first | omega | simp) (by have := HLEN.out; first | omega | (simp only [List.length_append, List.length_cons, List.length_nil]; omega)) _ _ CL).mono ?_
  rintro e wk ⟨rfl, Kk⟩
  go_wp2_with fail
  refine hK.out _ _ (d3 hHeld Kk) (fun hHeld => ?_)
  clear hK K Kk CL
  try simp only [Act.put, a0, a1, a2, a3, a4, a5]
  refine wpT (i := 12) (v := str (P9 [T6 x.side, [110, 101, 116], I2 x ++ [47] ++ dec x.bits.toNat])) rfl (Or.inl ⟨by rfl, fun W hW => ?_⟩) hHeld ?_
  ·clear hW
   go_simp
  try simp only [Act.put, a0, a1, a2, a3, a4, a5]
  refine wpAnyH_done (by kernel_rfl) ?_ _
  have HGF := hHeld
  clear hHeld
  go_wp2
  go_ret
  exact ⟨by rw [HE.out]; rfl, d3 HG1.out HGF⟩
 ·skip
  have HE : Hid (l9 x = P9 [j6 x.of, T6 x.side, a09 x.n x.m]) := by
   show l9 x = _
   rw [b1a (aP5 _ _)]
   unfold l9
   rw [HK.out]
   show (if x.of = 0 then [] else j6 x.of ++ [32]) ++ a0u x.side ++ (if x.n = x.m then _ else _) = _
   rw [a77]
   congr 2
   by_cases h0 : x.of = 0
   ·rw [if_pos h0, h0]; rfl
   ·have := HOF.out
    rw [if_neg h0, if_neg (a6A ⟨by omega, by omega⟩)]
  go_upto_region 17 with fail
  refine wp_region_held_drew (S := fun W' => w1.grownBy W' none) (by kernel_rfl) (f4 w1 1 none) (fun hHeld => ?_)
  generalize w1.drew = wd at *
  refine wpT (i := 0) (v := .pointer (some ⟨B, 5, none⟩)) rfl (Or.inl ⟨by rfl, fun W hW => ?_⟩) hHeld ?_
  ·clear hW
   go_simp
  try simp only [Act.put, a0, a1, a3, a4, a5]
  refine wpT (i := 1) (v := .int .i64 x.of) rfl (Or.inl ⟨by rfl, fun W hW => ?_⟩) hHeld ?_
  ·have c1 := (HC.out W hW).2.2.1
   clear hW
   go_simp
  try simp only [Act.put, a0, a1, a2, a3, a4, a5]
  refine wpT (i := 3) (v := .pointer (some ⟨B, 6, none⟩)) rfl (Or.inl ⟨by rfl, fun W hW => ?_⟩) hHeld ?_
  ·clear hW
   go_simp
  try simp only [Act.put, a0, a1, a2, a3, a4, a5]
  refine wpT (i := 4) (v := .int .i64 x.side) rfl (Or.inl ⟨by rfl, fun W hW => ?_⟩) hHeld ?_
  ·have c1 := (HC.out W hW).2.2.2.1
   clear hW
   go_simp
  try simp only [Act.put, a0, a1, a2, a3, a4, a5]
  refine wpT (i := 6) (v := .pointer (some ⟨B, 2, none⟩)) rfl (Or.inl ⟨by rfl, fun W hW => ?_⟩) hHeld ?_
  ·clear hW
   go_simp
  try simp only [Act.put, a0, a1, a2, a3, a4, a5]
  refine wpT (i := 7) (v := .int .u32 (x.n : Int)) rfl (Or.inl ⟨by rfl, fun W hW => ?_⟩) hHeld ?_
  ·have c1 := (HC.out W hW).1
   clear hW
   go_simp
  try simp only [Act.put, a0, a1, a2, a3, a4, a5]
  refine wpT (i := 8) (v := .pointer (some ⟨B, 3, none⟩)) rfl (Or.inl ⟨by rfl, fun W hW => ?_⟩) hHeld ?_
  ·clear hW
   go_simp
  try simp only [Act.put, a0, a1, a2, a3, a4, a5]
  refine wpT (i := 9) (v := .int .u32 (x.m : Int)) rfl (Or.inl ⟨by rfl, fun W hW => ?_⟩) hHeld ?_
  ·have c1 := (HC.out W hW).2.1
   clear hW
   go_simp
  try simp only [Act.put, a0, a1, a2, a3, a4, a5]
  refine wpR (rs := [2]) (AllReadyH.cons rfl (fun K hK => ?_) AllReadyH.nil)
  go_simp
  refine (a47 x.of _).mono ?_
  rintro e _ ⟨rfl, rfl⟩
  go_wp2_with fail
  refine hK.out _ _ hHeld (fun hHeld => ?_)
  clear hK K
  try simp only [Act.put, a0, a1, a2, a3, a4, a5]
  refine wpR (rs := [5]) (AllReadyH.cons rfl (fun K hK => ?_) AllReadyH.nil)
  go_simp
  refine (a71 x.side _).mono ?_
  rintro e _ ⟨rfl, rfl⟩
  go_wp2_with fail
  refine hK.out _ _ hHeld (fun hHeld => ?_)
  clear hK K
  try simp only [Act.put, a0, a1, a2, a3, a4, a5]
  refine wpR (rs := [10]) (AllReadyH.cons rfl (fun K hK => ?_) AllReadyH.nil)
  go_simp
  refine (HPRT.out _ hHeld).mono ?_
  rintro e wk ⟨rfl, Kk⟩
  go_wp2_with fail
  refine hK.out _ _ (d3 hHeld Kk) (fun hHeld => ?_)
  clear hK K Kk
  try simp only [Act.put, a0, a1, a2, a3, a4, a5]
  refine wpR (rs := [11]) (AllReadyH.cons rfl (fun K hK => ?_) AllReadyH.nil)
  refine a4b (by rfl) 82 3 _ (by rfl) _ (by kernel_rfl) [str (j6 x.of), str (T6 x.side), str (a09 x.n x.m)] 9 (a3X _ _ _) ?_
  intro ad wl CL KL
  refine hK.out _ _ (d3 hHeld KL) (fun hHeld => ?_)
  clear hK K KL
  try simp only [Act.put, a0, a1, a2, a3, a4, a5]
  refine wpR (rs := [12]) (AllReadyH.cons rfl (fun K hK => ?_) AllReadyH.nil)
  go_simp
  refine (HWD.out (j6 x.of) (T6 x.side) (a09 x.n x.m) (by have := HLEN.out; first | omega | simp) (by have := HLEN.out; first | omega | simp) (by have := HLEN.out; first | omega | (simp only [List.length_append, List.length_cons, List.length_nil]; omega)) _ _ CL).mono ?_
  rintro e wk ⟨rfl, Kk⟩
  go_wp2_with fail
  refine hK.out _ _ (d3 hHeld Kk) (fun hHeld => ?_)
  clear hK K Kk CL
  try simp only [Act.put, a0, a1, a2, a3, a4, a5]
  refine wpT (i := 13) (v := str (P9 [j6 x.of, T6 x.side, a09 x.n x.m])) rfl (Or.inl ⟨by rfl, fun W hW => ?_⟩) hHeld ?_
  ·clear hW
   go_simp
  try simp only [Act.put, a0, a1, a2, a3, a4, a5]
  refine wpAnyH_done (by kernel_rfl) ?_ _
  have HGF := hHeld
  clear hHeld
  go_wp2
  go_ret
  exact ⟨by rw [HE.out]; rfl, d3 HG1.out HGF⟩
theorem a3v (x : Ng) (w : World) : Calls Tryz.prog 98 #[.agg x.cells.toArray] w fun e w' => e = .returned (.int .i64 (d4 x)) ∧ w.grownBy w' none := by
 have HBX := z8 x
 have h3 := World.grownBy_alloc w (.cells x.cells.toArray 43) none
 have V := NB.alloc w x
 obtain ⟨E, hE⟩ : ∃ E, d4 x = E := ⟨_, rfl⟩
 rw [hE]
 have HE : Hid (d4 x = E) := hE
 obtain ⟨X, hX⟩ : ∃ X, x.cells.toArray = X := ⟨_, rfl⟩
 rw [hX] at HBX ⊢
 clear hE
 go_enter Tryz.func98, Tryz.ntmps98
 go_upto_region 1 with fail
 rw [← hX] at *
 generalize w.alloc (.cells x.cells.toArray 43) = w1 at *
 generalize w.heap.size = B at *
 have c0 := V.kind
 have c1 := V.op
 obtain ⟨kk, hkk⟩ : ∃ kk, x.kind = kk := ⟨_, rfl⟩
 have HK : Hid (x.kind = kk) := hkk
 rw [hkk] at c0
 clear HBX hX X V hkk
 have hc : kk = 8 ∨ kk = 7 ∨ kk = 9 ∨ kk = 6 ∨ kk = 5 ∨ kk = 4 ∨ ¬ (4 ≤ kk ∧ kk ≤ 9) := by omega
 rcases hc with rfl | rfl | rfl | rfl | rfl | rfl | hn
 ·obtain rfl : E = 1 := by rw [← HE.out]; unfold d4; rw [HK.out]; rfl
  go_wp2
  go_ret
  exact ⟨rfl, h3⟩
 ·obtain rfl : E = 2 := by rw [← HE.out]; unfold d4; rw [HK.out]; rfl
  go_wp2
  go_ret
  exact ⟨rfl, h3⟩
 ·obtain rfl : E = 3 := by rw [← HE.out]; unfold d4; rw [HK.out]; rfl
  go_wp2
  go_ret
  exact ⟨rfl, h3⟩
 ·obtain rfl : E = 4 := by rw [← HE.out]; unfold d4; rw [HK.out]; rfl
  go_wp2
  go_ret
  exact ⟨rfl, h3⟩
 ·obtain rfl : E = 11 := by rw [← HE.out]; unfold d4; rw [HK.out]; rfl
  go_wp2
  go_ret
  exact ⟨rfl, h3⟩
 ·have CA := aS2 x.op
  obtain rfl : E = a3u x.op := by rw [← HE.out]; exact aS5 HK.out
  go_wp2_with fail
  refine (CA _).mono ?_
  rintro e w2 ⟨rfl, rfl⟩
  go_wp2
  go_ret
  exact ⟨rfl, h3⟩
 ·obtain rfl : E = 12 := by
   rw [← HE.out]
   unfold d4
   rw [HK.out]
   rw [if_neg (by omega), if_neg (by omega), if_neg (by omega), if_neg (by omega), if_neg (by omega), if_pos (by omega)]
  have u4 : (kk == 4) = false := by rw [beq_eq_false_iff_ne]; omega
  have u5 : (kk == 5) = false := by rw [beq_eq_false_iff_ne]; omega
  have u6 : (kk == 6) = false := by rw [beq_eq_false_iff_ne]; omega
  have u7 : (kk == 7) = false := by rw [beq_eq_false_iff_ne]; omega
  have u8 : (kk == 8) = false := by rw [beq_eq_false_iff_ne]; omega
  have u9 : (kk == 9) = false := by rw [beq_eq_false_iff_ne]; omega
  clear hn
  go_wp2
  go_ret
  exact ⟨rfl, h3⟩
theorem ao2 {k : Int} (h : 1 ≤ k ∧ k ≤ 6) : a3N k = a0S k := by
 have : k = 1 ∨ k = 2 ∨ k = 3 ∨ k = 4 ∨ k = 5 ∨ k = 6 := by omega
 rcases this with rfl | rfl | rfl | rfl | rfl | rfl <;> rfl
theorem ai0 {k : Int} (h : 1 ≤ k ∧ k ≤ 10) : a3K k = a07 k := by
 have : k = 1 ∨ k = 2 ∨ k = 3 ∨ k = 4 ∨ k = 5 ∨ k = 6 ∨ k = 7 ∨ k = 8 ∨ k = 9 ∨ k = 10 := by omega
 rcases this with rfl | rfl | rfl | rfl | rfl | rfl | rfl | rfl | rfl | rfl <;> rfl
theorem aV2 (x : Ng) (w : World) (hx : x.kind = 7 ∨ x.kind = 8 ∨ (x.kind = 6 ∧ 1 ≤ x.op ∧ x.op ≤ 6) ∨ (x.kind = 4 ∧ 1 ≤ x.op ∧ x.op ≤ 10)) : Calls Tryz.prog 102 #[.agg x.cells.toArray] w fun e w' => e = .returned (str (N0 x)) ∧ w.grownBy w' none := by
 have HBX := z8 x
 have h3 := World.grownBy_alloc w (.cells x.cells.toArray 43) none
 have V := NB.alloc w x
 obtain ⟨E, hE⟩ : ∃ E, N0 x = E := ⟨_, rfl⟩
 rw [hE]
 have HE : Hid (N0 x = E) := hE
 obtain ⟨X, hX⟩ : ∃ X, x.cells.toArray = X := ⟨_, rfl⟩
 rw [hX] at HBX ⊢
 clear hE
 go_enter Tryz.func102, Tryz.ntmps102
 go_upto_region 1 with fail
 rw [← hX] at *
 generalize w.alloc (.cells x.cells.toArray 43) = w1 at *
 generalize w.heap.size = B at *
 have c0 := V.kind
 have c1 := V.op
 obtain ⟨kk, hkk⟩ : ∃ kk, x.kind = kk := ⟨_, rfl⟩
 have HK : Hid (x.kind = kk) := hkk
 rw [hkk] at c0
 rw [hkk] at hx
 clear HBX hX X V hkk
 rcases hx with rfl | rfl | ⟨rfl, h1, h2⟩ | ⟨rfl, h1, h2⟩
 ·obtain rfl : E = [97, 110, 100] := by rw [← HE.out]; unfold N0; rw [HK.out]; rfl
  go_wp2
  go_ret
  exact ⟨rfl, h3⟩
 ·obtain rfl : E = [111, 114] := by rw [← HE.out]; unfold N0; rw [HK.out]; rfl
  go_wp2
  go_ret
  exact ⟨rfl, h3⟩
 ·have CC := ao3 x.op
  obtain rfl : E = a3N x.op := by rw [← HE.out, ao2 ⟨h1, h2⟩]; unfold N0; rw [HK.out]; rfl
  clear h1 h2
  go_wp2_with fail
  refine (CC _).mono ?_
  rintro e w2 ⟨rfl, rfl⟩
  go_wp2
  go_ret
  exact ⟨rfl, h3⟩
 ·have CC := ai3 x.op
  obtain rfl : E = a3K x.op := by rw [← HE.out, ai0 ⟨h1, h2⟩]; unfold N0; rw [HK.out]; rfl
  clear h1 h2
  go_wp2_with fail
  refine (CC _).mono ?_
  rintro e w2 ⟨rfl, rfl⟩
  go_wp2
  go_ret
  exact ⟨rfl, h3⟩

end Go.Proofs.YtklipelnjgpnjaaGreatDoor
