import Derived.Test.YtklipelnjgpnjaaGreatDoorLotS19
namespace Go.Proofs.YtklipelnjgpnjaaGreatDoor
open Go.RowKit
set_option maxRecDepth 100000
theorem aL8 (zs : List UInt8) (hz : zs.length = 16) : J7 (Z0 (d8 zs)) = some zs := by
 rw [aL9 _ (a3q 8 zs (by omega)) (a6K zs), a8c 8 zs (by omega)]
theorem a8S {x : Ng} (hf : O0 x = true) (hl : x.addr.length = 16) (hk : x.kind = 14 ∨ x.kind = 15) (p : Nat) (R : List Tk) (k : Nat) :
  ∃ d, Z3 k (⟨(kA x).1, p, (kA x).2.1, (kA x).2.2⟩ :: R) = .ok (d, R) ∧ d = { ndK k with of := x.of.toNat, addr := x.addr } := by
 have hm := (a21 hf hl).2.2
 have hh : a1y x = true := by
  unfold m4 at hm
  rw [if_neg (by omega), if_neg (by omega), if_neg (by omega), if_neg (by omega), if_neg (by omega), if_neg (by omega), if_pos hk] at hm
  exact hm
 unfold a1y at hh
 simp only [Bool.and_eq_true, Bool.or_eq_true, beq_iff_eq, decide_eq_true_eq] at hh
 obtain ⟨⟨h1, -⟩, h3⟩ := hh
 have hof := a0s h1
 have hid := a4q hl
 by_cases h : x.of = 3
 ·refine ⟨_, ?_, rfl⟩
  unfold Z3 kA I2
  rw [if_neg (by rw [if_pos h]; show ¬ (4 = 3); decide), if_pos (by rw [if_pos h]; rfl)]
  show (match J7 (if x.of = 3 then _ else _) with | some a => _ | none => _) = _
  rw [if_pos h, aL8 _ (by rw [hid, hl])]
  show Except.ok _ = _
  rw [hid, h]
  rfl
 ·have h2 : x.of = 2 := by omega
  have h3 : (l0 x).drop 4 = f7 12 := h3.resolve_left h
  refine ⟨_, ?_, rfl⟩
  unfold Z3 kA I2
  rw [if_pos (by rw [if_neg h]; rfl)]
  show (match M2 (if x.of = 3 then _ else _) with | some a => _ | none => _) = _
  rw [if_neg h, aL4 _ (by rw [List.length_take, hid, hl]; rfl)]
  show Except.ok _ = _
  have e : (l0 x).take 4 ++ List.replicate 12 0 = x.addr := by
   rw [show List.replicate 12 (0 : UInt8) = f7 12 from rfl, ← h3, List.take_append_drop, hid]
  rw [e, h2]
  rfl
theorem a48 {k : Int} (hk : 0 ≤ k ∧ k ≤ 2) {A R : List Tk} (hA : A.map Tk.ky = a1s k) (hR : r9 R = 0) : r9 (A ++ R) = k.toNat ∧ s8 (A ++ R) = R ∧ (k ≠ 0 → ∃ p t, (t = J8 ∨ t = I6) ∧ A = [⟨2, p, t, 0⟩]) ∧ (k = 0 → A = []) := by
 have : k = 0 ∨ k = 1 ∨ k = 2 := by omega
 rcases this with rfl | rfl | rfl
 ·obtain rfl := W7 hA
  refine ⟨hR, ?_, fun h => absurd rfl h, fun _ => rfl⟩
  unfold s8
  rw [List.nil_append, if_pos hR]
 ·obtain ⟨p, B, rfl, hB⟩ := E0 (a := kW J8) (l := []) hA
  obtain rfl := W7 hB
  have h1 : r9 ([⟨(kW J8).1, p, (kW J8).2.1, (kW J8).2.2⟩] ++ R) = 1 := rfl
  refine ⟨h1, ?_, fun _ => ⟨p, _, .inl rfl, rfl⟩, fun h => absurd h (by decide)⟩
  unfold s8
  rw [if_neg (by rw [h1]; decide)]
  rfl
 ·obtain ⟨p, B, rfl, hB⟩ := E0 (a := kW I6) (l := []) hA
  obtain rfl := W7 hB
  have h1 : r9 ([⟨(kW I6).1, p, (kW I6).2.1, (kW I6).2.2⟩] ++ R) = 2 := rfl
  refine ⟨h1, ?_, fun _ => ⟨p, _, .inr rfl, rfl⟩, fun h => absurd h (by decide)⟩
  unfold s8
  rw [if_neg (by rw [h1]; decide)]
  rfl
theorem a43 {rec : Nat → List Tk → Out} {nest p : Nat} {t : List UInt8} {R : List Tk} (ht : t ∈ [J8, I6, U0, V6, J0, H9]) : s9 rec nest (⟨2, p, t, 0⟩ :: R) = a0n 0 p (⟨2, p, t, 0⟩ :: R) := by
 simp only [List.mem_cons, List.not_mem_nil, or_false] at ht
 rcases ht with rfl | rfl | rfl | rfl | rfl | rfl
 ·rw [a1t (by decide), if_neg (by decide)]; rfl
 ·rw [a1t (by decide), if_neg (by decide)]; rfl
 ·rw [a1t (by decide), if_neg (by decide)]; rfl
 ·rw [a1t (by decide), if_neg (by decide)]; rfl
 ·rw [a1t (by decide), if_neg (by decide)]; rfl
 ·rw [a1t (by decide), if_neg (by decide)]; rfl
theorem a0t (p : Nat) (x y : List UInt8) (R : List Tk) : isB (⟨2, p, x, 0⟩ :: R) y = (x == y) := rfl
theorem a3S (p : Nat) (x y : List UInt8) (R : List Tk) : isB (⟨5, p, x, 0⟩ :: R) y = (x == y) := rfl
theorem aV8 {x : Ng} (hf : O0 x = true) (hl : x.addr.length = 16) (hk : x.kind = 14) (at' s p q : Nat) (R : List Tk) :
  S2 0 at' s (⟨2, p, U0, 0⟩ :: ⟨(kA x).1, q, (kA x).2.1, (kA x).2.2⟩ :: R) = .ok ([({ ndK 14 with of := x.of.toNat, addr := x.addr, side := s }, at')], R) := by
 obtain ⟨d, h1, h2⟩ := a8S hf hl (.inl hk) q R 14
 unfold S2
 rw [a0t, a0t, if_neg (by decide), if_neg (by decide), if_pos ⟨rfl, by rw [a0t]; decide⟩]
 show d7 (Z3 14 (_ :: R)) _ = _
 rw [h1, h2]
 rfl
theorem a54 (p n : Nat) (t : List UInt8) (R : List Tk) : j7 (⟨1, p, t, n⟩ :: R) = .ok (n, R) := rfl
theorem a40 (p : Nat) (t : List UInt8) (R : List Tk) : m9 t (⟨5, p, t, 0⟩ :: R) = .ok R := by
 unfold m9
 rw [a3S, if_pos (by simp)]
 rfl
theorem aV9 {x : Ng} (hf : O0 x = true) (hl : x.addr.length = 16) (hk : x.kind = 15) (at' s p q r u : Nat) (R : List Tk) :
  S2 0 at' s (⟨2, p, V6, 0⟩ :: ⟨(kA x).1, q, (kA x).2.1, (kA x).2.2⟩ :: ⟨5, r, [47], 0⟩ :: ⟨1, u, dec x.bits.toNat, x.bits.toNat⟩ :: R) = .ok ([({ ndK 15 with of := x.of.toNat, addr := x.addr, bits := x.bits.toNat, side := s }, at')], R) := by
 obtain ⟨d, h1, h2⟩ := a8S hf hl (.inr hk) q (⟨5, r, [47], 0⟩ :: ⟨1, u, dec x.bits.toNat, x.bits.toNat⟩ :: R) 15
 unfold S2
 rw [a0t, a0t, if_neg (by decide), if_neg (by decide), if_neg (by rw [a0t]; rintro ⟨-, h⟩; revert h; decide), if_pos ⟨rfl, by rw [a0t]; decide⟩]
 simp only [List.tail_cons, h1, h2, D0, a40, a54]
theorem aY6 (of at' s p q n : Nat) (R : List Tk) : S2 of at' s (⟨2, p, J0, 0⟩ :: ⟨1, q, dec n, n⟩ :: R) = .ok ([({ ndK 16 with of := of, side := s, n := n, m := n }, at')], R) := by
 unfold S2
 rw [a0t, if_pos (by decide)]
 simp only [List.tail_cons, a54, D0]
theorem aW1 (of at' s p q r u n m : Nat) (R : List Tk) : S2 of at' s (⟨2, p, H9, 0⟩ :: ⟨1, q, dec n, n⟩ :: ⟨5, r, [45], 0⟩ :: ⟨1, u, dec m, m⟩ :: R) = .ok ([({ ndK 16 with of := of, side := s, n := n, m := m }, at')], R) := by
 unfold S2
 rw [a0t, a0t, if_neg (by decide), if_pos (by decide)]
 simp only [List.tail_cons, a54, D0, a40]
theorem aB1 {x : Ng} (ha : arG x.kind = some 0) (hf : O0 x = true) (hr : o7 x = 0) (hl : x.addr.length = 16) {A R : List Tk} (hA : A.map Tk.ky = H0 x) (hR : a4o R) (rec : Nat → List Tk → Out) (nest : Nat) :
  ∃ d p, s9 rec nest (A ++ R) = .ok ([(d, p)], R) ∧ d.g = x := by
 have hk : x.kind = 1 ∨ x.kind = 2 ∨ x.kind = 10 ∨ x.kind = 11 ∨ x.kind = 12 ∨ x.kind = 13 ∨ x.kind = 14 ∨ x.kind = 15 ∨ x.kind = 16 := by
  rcases Z8 ha with ⟨h1, -⟩ | ⟨h1, -⟩ | ⟨-, h1⟩
  ·cases h1
  ·cases h1
  ·exact h1
 obtain ⟨hu, -, hm⟩ := a21 hf hl
 obtain ⟨g1, g2, g3, g4, g5, g6, -⟩ := a2q hf hr
 rcases hk with hk | hk | hk | hk | hk | hk | hk | hk | hk
 ·have hz := a1I hf hl (by unfold j3; rw [hk]; rfl)
  unfold H0 at hA
  rw [if_pos hk] at hA
  obtain ⟨p, B, rfl, hB⟩ := E0 hA
  obtain rfl := W7 hB
  refine ⟨_, p, aY1, ?_⟩
  rw [hu, hz]
  unfold j3
  rw [if_pos (.inl hk), hk]
  rfl
 ·have hz := a1I hf hl (by unfold j3; rw [hk]; rfl)
  unfold H0 at hA
  rw [if_neg (by omega), if_pos hk] at hA
  obtain ⟨p, B, rfl, hB⟩ := E0 hA
  obtain rfl := W7 hB
  refine ⟨ndK 2, p, ?_, ?_⟩
  ·show s9 rec nest (⟨2, p, a1F, 0⟩ :: R) = _
   rw [a1t (by decide), if_neg (by decide)]
   rfl
  ·rw [hu, hz]
   unfold j3
   rw [hk]
   rfl
 ·have hz := a1I hf hl (by unfold j3; rw [hk]; rfl)
  have hs : x.side = 1 ∨ x.side = 2 := by
   unfold m4 at hm
   rw [hk] at hm
   have := a0s (show inG x.side 1 2 = true from hm)
   omega
  unfold H0 at hA
  rw [if_neg (by omega), if_neg (by omega), if_pos hk] at hA
  obtain ⟨p, B, rfl, hB⟩ := E0 hA
  obtain rfl := W7 hB
  rcases hs with hs | hs
  ·refine ⟨{ ndK 10 with side := 1 }, p, ?_, ?_⟩
   ·rw [if_pos hs]
    show s9 rec nest (⟨2, p, a1E, 0⟩ :: R) = _
    rw [a1t (by decide), if_neg (by decide)]
    rfl
   ·rw [hu, hz]
    unfold j3
    rw [hk, hs]
    rfl
  ·refine ⟨{ ndK 10 with side := 2 }, p, ?_, ?_⟩
   ·rw [if_neg (by omega)]
    show s9 rec nest (⟨2, p, a1G, 0⟩ :: R) = _
    rw [a1t (by decide), if_neg (by decide)]
    rfl
   ·rw [hu, hz]
    unfold j3
    rw [hk, hs]
    rfl
 ·have hz := a1I hf hl (by unfold j3; rw [hk]; rfl)
  have hof := a0s (show inG x.of 2 13 = true by unfold m4 at hm; rw [hk] at hm; exact hm)
  unfold H0 at hA
  rw [if_neg (by omega), if_neg (by omega), if_neg (by omega), if_pos hk] at hA
  obtain ⟨p, B, rfl, hB⟩ := E0 hA
  obtain rfl := W7 hB
  refine ⟨{ ndK 11 with of := x.of.toNat }, p, ?_, ?_⟩
  ·show s9 rec nest (⟨2, p, j6 x.of, 0⟩ :: R) = _
   rw [a5q ⟨by omega, by omega⟩]
   unfold M1
   rw [hR [91] (by simp), hR D5 (by simp), hR J8 (by simp), hR I6 (by simp), hR J0 (by simp), hR H9 (by simp), if_neg (by simp), if_neg (by omega), if_neg (by simp), if_neg (by simp)]
  ·rw [hu, hz]
   unfold j3
   rw [hk]
   show (⟨11, 0, 0, 0, 0, (x.of.toNat : Int), 0, _, 0⟩ : Ng) = ⟨11, 0, 0, 0, 0, x.of, 0, _, 0⟩
   rw [show (x.of.toNat : Int) = x.of by omega]
   rfl
 ·have hz := a1I hf hl (by unfold j3; rw [hk]; rfl)
  unfold H0 at hA
  rw [if_neg (by omega), if_neg (by omega), if_neg (by omega), if_neg (by omega), if_pos hk] at hA
  obtain ⟨p, B, rfl, hB⟩ := E0 hA
  obtain ⟨q, C, rfl, hC⟩ := E0 hB
  obtain rfl := W7 hC
  refine ⟨{ ndK 12 with n := x.n }, p, ?_, ?_⟩
  ·show s9 rec nest (⟨2, p, D5, 0⟩ :: ⟨1, q, dec x.n, x.n⟩ :: R) = _
   rw [a1t (by decide), if_neg (by decide)]
   rfl
  ·rw [hu, hz]
   unfold j3
   rw [hk]
   rfl
 ·have hz := a1I hf hl (by unfold j3; rw [hk]; rfl)
  have hof := a0s (show inG x.of 2 3 = true by unfold m4 at hm; rw [hk] at hm; exact hm)
  unfold H0 at hA
  rw [if_neg (by omega), if_neg (by omega), if_neg (by omega), if_neg (by omega), if_neg (by omega), if_pos hk] at hA
  obtain ⟨p, B, rfl, hB⟩ := E0 hA
  obtain ⟨q, C, rfl, hC⟩ := E0 hB
  obtain ⟨r, D, rfl, hD⟩ := E0 hC
  obtain rfl := W7 hD
  refine ⟨{ ndK 13 with of := x.of.toNat, n := x.n }, p, ?_, ?_⟩
  ·show s9 rec nest (⟨2, p, j6 x.of, 0⟩ :: ⟨2, q, D5, 0⟩ :: ⟨1, r, dec x.n, x.n⟩ :: R) = _
   rw [a5q ⟨by omega, by omega⟩]
   unfold M1
   rw [a0t, a0t, if_neg (by rintro ⟨h, -⟩; revert h; decide), if_neg (by omega), if_pos ⟨by omega, by decide⟩]
   rfl
  ·rw [hu, hz]
   unfold j3
   rw [hk]
   show (⟨13, 0, x.n, 0, 0, (x.of.toNat : Int), 0, _, 0⟩ : Ng) = ⟨13, 0, x.n, 0, 0, x.of, 0, _, 0⟩
   rw [show (x.of.toNat : Int) = x.of by omega]
   rfl
 ·unfold H0 at hA
  rw [if_neg (by omega), if_neg (by omega), if_neg (by omega), if_neg (by omega), if_neg (by omega), if_neg (by omega), if_pos hk] at hA
  obtain ⟨S, B, rfl, hS, hB⟩ := a1Q hA
  obtain ⟨p, C, rfl, hC⟩ := E0 hB
  obtain ⟨q, D, rfl, hD⟩ := E0 hC
  obtain rfl := W7 hD
  have hE : ∀ at', a0n 0 at' (S ++ (⟨2, p, U0, 0⟩ :: ⟨(kA x).1, q, (kA x).2.1, (kA x).2.2⟩ :: R)) = .ok ([({ ndK 14 with of := x.of.toNat, addr := x.addr, side := x.side.toNat }, at')], R) := fun at' => by
   obtain ⟨s1, s2, -, -⟩ := a48 ⟨g1, g2⟩ hS (R := ⟨2, p, U0, 0⟩ :: ⟨(kA x).1, q, (kA x).2.1, (kA x).2.2⟩ :: R) rfl
   unfold a0n
   rw [s1, s2]
   exact aV8 hf hl hk _ _ _ _ _
  obtain ⟨-, -, s3, s4⟩ := a48 ⟨g1, g2⟩ hS (R := ⟨2, p, U0, 0⟩ :: ⟨(kA x).1, q, (kA x).2.1, (kA x).2.2⟩ :: R) rfl
  have hg : ∀ d : Nd, d = { ndK 14 with of := x.of.toNat, addr := x.addr, side := x.side.toNat } → d.g = x := fun d hd => by
   have e2 : j3 x = ⟨14, 0, 0, 0, 0, x.of, x.side, x.addr, 0⟩ := by unfold j3; rw [hk]; rfl
   rw [hd, hu, e2]
   show (⟨14, 0, 0, 0, 0, (x.of.toNat : Int), (x.side.toNat : Int), x.addr, 0⟩ : Ng) = _
   rw [show (x.of.toNat : Int) = x.of by omega, show (x.side.toNat : Int) = x.side by omega]
  by_cases h0 : x.side = 0
  ·obtain rfl := s4 h0
   refine ⟨_, p, ?_, hg _ rfl⟩
   show s9 rec nest (⟨2, p, U0, 0⟩ :: _) = _
   rw [a43 (by simp)]
   exact hE p
  ·obtain ⟨p0, t, ht, rfl⟩ := s3 h0
   refine ⟨_, p0, ?_, hg _ rfl⟩
   show s9 rec nest (⟨2, p0, t, 0⟩ :: _) = _
   rw [a43 (by rcases ht with rfl | rfl <;> simp)]
   exact hE p0
 ·unfold H0 at hA
  rw [if_neg (by omega), if_neg (by omega), if_neg (by omega), if_neg (by omega), if_neg (by omega), if_neg (by omega), if_neg (by omega), if_pos hk] at hA
  obtain ⟨S, B, rfl, hS, hB⟩ := a1Q hA
  obtain ⟨p, C, rfl, hC⟩ := E0 hB
  obtain ⟨q, D, rfl, hD⟩ := E0 hC
  obtain ⟨r, E, rfl, hE⟩ := E0 hD
  obtain ⟨u, F, rfl, hF⟩ := E0 hE
  obtain rfl := W7 hF
  have hE : ∀ at', a0n 0 at' (S ++ (⟨2, p, V6, 0⟩ :: ⟨(kA x).1, q, (kA x).2.1, (kA x).2.2⟩ :: ⟨5, r, [47], 0⟩ :: ⟨1, u, dec x.bits.toNat, x.bits.toNat⟩ :: R)) = .ok ([({ ndK 15 with of := x.of.toNat, addr := x.addr, bits := x.bits.toNat, side := x.side.toNat }, at')], R) := fun at' => by
   obtain ⟨s1, s2, -, -⟩ := a48 ⟨g1, g2⟩ hS (R := ⟨2, p, V6, 0⟩ :: ⟨(kA x).1, q, (kA x).2.1, (kA x).2.2⟩ :: ⟨5, r, [47], 0⟩ :: ⟨1, u, dec x.bits.toNat, x.bits.toNat⟩ :: R) rfl
   unfold a0n
   rw [s1, s2]
   exact aV9 hf hl hk _ _ _ _ _ _ _
  obtain ⟨-, -, s3, s4⟩ := a48 ⟨g1, g2⟩ hS (R := ⟨2, p, V6, 0⟩ :: ⟨(kA x).1, q, (kA x).2.1, (kA x).2.2⟩ :: ⟨5, r, [47], 0⟩ :: ⟨1, u, dec x.bits.toNat, x.bits.toNat⟩ :: R) rfl
  have hg : ∀ d : Nd, d = { ndK 15 with of := x.of.toNat, addr := x.addr, bits := x.bits.toNat, side := x.side.toNat } → d.g = x := fun d hd => by
   have e2 : j3 x = ⟨15, 0, 0, 0, 0, x.of, x.side, x.addr, x.bits⟩ := by unfold j3; rw [hk]; rfl
   rw [hd, hu, e2]
   show (⟨15, 0, 0, 0, 0, (x.of.toNat : Int), (x.side.toNat : Int), x.addr, (x.bits.toNat : Int)⟩ : Ng) = _
   rw [show (x.of.toNat : Int) = x.of by omega, show (x.side.toNat : Int) = x.side by omega, show (x.bits.toNat : Int) = x.bits by omega]
  by_cases h0 : x.side = 0
  ·obtain rfl := s4 h0
   refine ⟨_, p, ?_, hg _ rfl⟩
   show s9 rec nest (⟨2, p, V6, 0⟩ :: _) = _
   rw [a43 (by simp)]
   exact hE p
  ·obtain ⟨p0, t, ht, rfl⟩ := s3 h0
   refine ⟨_, p0, ?_, hg _ rfl⟩
   show s9 rec nest (⟨2, p0, t, 0⟩ :: _) = _
   rw [a43 (by rcases ht with rfl | rfl <;> simp)]
   exact hE p0
 ·have hz := a1I hf hl (by unfold j3; rw [hk]; rfl)
  have hof : x.of = 0 ∨ x.of = 4 ∨ x.of = 5 := by
   unfold m4 at hm
   rw [hk] at hm
   have h1 := (Bool.and_eq_true_iff.1 (show ((x.of == 0 || inG x.of 4 5) && inG x.side 0 2) = true from hm)).1
   rcases Bool.or_eq_true_iff.1 h1 with h2 | h2
   ·exact .inl (by simpa using h2)
   ·have := a0s h2
    omega
  have hg : ∀ d : Nd, d = { ndK 16 with of := x.of.toNat, side := x.side.toNat, n := x.n, m := x.m } → d.g = x := fun d hd => by
   have e2 : j3 x = ⟨16, 0, x.n, x.m, 0, x.of, x.side, f7 16, 0⟩ := by unfold j3; rw [hk]; rfl
   rw [hd, hu, e2, hz]
   show (⟨16, 0, x.n, x.m, 0, (x.of.toNat : Int), (x.side.toNat : Int), _, 0⟩ : Ng) = _
   rw [show (x.of.toNat : Int) = x.of by omega, show (x.side.toNat : Int) = x.side by omega]
   rfl
  unfold H0 at hA
  rw [if_neg (by omega), if_neg (by omega), if_neg (by omega), if_neg (by omega), if_neg (by omega), if_neg (by omega), if_neg (by omega), if_neg (by omega)] at hA
  obtain ⟨AB, C, rfl, hAB, hC⟩ := a1Q hA
  obtain ⟨N, S, rfl, hN, hS⟩ := a1Q hAB
  have hP : ∃ t p B, C ++ R = ⟨2, p, t, 0⟩ :: B ∧ (t = J0 ∨ t = H9) ∧ ∀ of at' s, S2 of at' s (C ++ R) = .ok ([({ ndK 16 with of := of, side := s, n := x.n, m := x.m }, at')], R) := by
   by_cases hnm : x.n = x.m
   ·rw [if_pos hnm] at hC
    obtain ⟨p, D, rfl, hD⟩ := E0 hC
    obtain ⟨q, E, rfl, hE⟩ := E0 hD
    obtain rfl := W7 hE
    exact ⟨J0, p, _, rfl, .inl rfl, fun of at' s => by rw [← hnm]; exact aY6 _ _ _ _ _ _ _⟩
   ·rw [if_neg hnm] at hC
    obtain ⟨p, D, rfl, hD⟩ := E0 hC
    obtain ⟨q, E, rfl, hE⟩ := E0 hD
    obtain ⟨r, F, rfl, hF⟩ := E0 hE
    obtain ⟨u, G, rfl, hG⟩ := E0 hF
    obtain rfl := W7 hG
    exact ⟨H9, p, _, rfl, .inr rfl, fun of at' s => aW1 _ _ _ _ _ _ _ _ _ _⟩
  obtain ⟨t, pt, B, hCR, ht, hsd⟩ := hP
  have hs0 : r9 (C ++ R) = 0 := by
   rw [hCR]
   unfold r9
   rw [a0t, a0t]
   rcases ht with rfl | rfl <;> decide
  obtain ⟨s1, s2, s3, s4⟩ := a48 ⟨g1, g2⟩ hS hs0
  have hE : ∀ of at', a0n of at' (S ++ (C ++ R)) = .ok ([({ ndK 16 with of := of, side := x.side.toNat, n := x.n, m := x.m }, at')], R) := fun of at' => by
   unfold a0n
   rw [s1, s2]
   exact hsd _ _ _
  have hhd : ∃ t' p' B', S ++ (C ++ R) = ⟨2, p', t', 0⟩ :: B' ∧ (t' = J8 ∨ t' = I6 ∨ t' = J0 ∨ t' = H9) := by
   by_cases h0 : x.side = 0
   ·obtain rfl := s4 h0
    exact ⟨t, pt, B, hCR, .inr (.inr ht)⟩
   ·obtain ⟨p0, t0, ht0, rfl⟩ := s3 h0
    exact ⟨t0, p0, _, rfl, by rcases ht0 with h | h <;> simp [h]⟩
  obtain ⟨t', p', B', hB', ht'⟩ := hhd
  rw [show N ++ S ++ C ++ R = N ++ (S ++ (C ++ R)) by simp]
  rcases hof with h0 | h4
  ·rw [if_pos h0] at hN
   obtain rfl := W7 hN
   refine ⟨_, p', ?_, hg _ rfl⟩
   rw [List.nil_append, hB', a43 (by rcases ht' with rfl | rfl | rfl | rfl <;> simp), ← hB', hE, h0]
   rfl
  ·rw [if_neg (by omega)] at hN
   obtain ⟨p, D, rfl, hD⟩ := E0 hN
   obtain rfl := W7 hD
   refine ⟨_, p, ?_, hg _ rfl⟩
   show s9 rec nest (⟨2, p, j6 x.of, 0⟩ :: (S ++ (C ++ R))) = _
   rw [a5q ⟨by omega, by omega⟩]
   have hi : ∀ y, isB (S ++ (C ++ R)) y = (t' == y) := fun y => by rw [hB']; rfl
   unfold M1
   rw [hi, hi, hi, hi, hi, hi, if_neg (by rintro ⟨h, -⟩; rcases ht' with rfl | rfl | rfl | rfl <;> revert h <;> decide), if_neg (by omega), if_neg (by omega), if_pos ⟨by omega, by rcases ht' with rfl | rfl | rfl | rfl <;> decide⟩, hE]
theorem ak9 {x : List UInt8} {j : Nat} (h : ∀ i : Fin 11, i.val ≠ j → (q7 i.val x).isNone = true) : ∀ i, i ≠ j → q7 i x = none := fun i hi => by
 by_cases h1 : i ≤ 10
 ·exact Option.isNone_iff_eq_none.1 (h ⟨i, by omega⟩ hi)
 ·unfold q7
  rw [if_neg (by omega), if_neg (by omega), if_neg (by omega), if_neg (by omega), if_neg (by omega), if_neg (by omega), if_neg (by omega), if_neg (by omega), if_neg (by omega)]
def a1d (k : Nat) (B : List Tk) : Prop := a4o B ∧ ∀ j, k ≤ j → opT j B = none
theorem a1d.up {k l : Nat} {B : List Tk} (h : a1d k B) (hl : k ≤ l) : a1d l B := ⟨h.1, fun j hj => h.2 j (by omega)⟩
theorem a7d {k : Nat} {B : List Tk} (h : a3G B) : a1d k B := ⟨h.1, fun j _ => h.2 j⟩
def a2V (x : Ng) : Prop := O0 x = true ∧ o7 x = 0 ∧ x.addr.length = 16
def Tr.Good (T : Tr) : Prop := T.Wf ∧ ∀ x ∈ T.flat, a2V x
theorem Tr.Good.one {x : Ng} {p : Tr} (h : (Tr.one x p).Good) : arG x.kind = some 1 ∧ a2V x ∧ p.Good :=
 ⟨h.1.1, h.2 x (by simp [Tr.flat]), h.1.2, fun y hy => h.2 y (by simp [Tr.flat, hy])⟩
theorem Tr.Good.two {x : Ng} {p q : Tr} (h : (Tr.two x p q).Good) : arG x.kind = some 2 ∧ a2V x ∧ p.Good ∧ q.Good :=
 ⟨h.1.1, h.2 x (by simp [Tr.flat]), ⟨h.1.2.1, fun y hy => h.2 y (by simp [Tr.flat, hy])⟩, ⟨h.1.2.2, fun y hy => h.2 y (by simp [Tr.flat, hy])⟩⟩
def kyB (a : Ky) (x : List UInt8) : Bool := (a.1 == 5 || a.1 == 2) && a.2.1 == x
def a2W (a : Ky) : Prop := kyB a U1 = false ∧ kyB a [33] = false ∧ kyB a [45] = false
theorem aP2 (n : Nat) : a2W (kN n) := ⟨rfl, rfl, rfl⟩
theorem a5a (k : Int) : a2W (kW (j6 k)) := by
 have key : ∀ j : Fin 14, kyB (kW (j6 (j.val : Int))) U1 = false ∧ kyB (kW (j6 (j.val : Int))) [33] = false ∧ kyB (kW (j6 (j.val : Int))) [45] = false := by decide
 by_cases h : 0 ≤ k ∧ k ≤ 13
 ·have := key ⟨k.toNat, by omega⟩
  rw [show ((⟨k.toNat, by omega⟩ : Fin 14).val : Int) = k from Int.toNat_of_nonneg h.1] at this
  exact this
 ·have e : j6 k = [] := by
   unfold j6
   rw [if_neg (by omega), if_neg (by omega), if_neg (by omega), if_neg (by omega), if_neg (by omega), if_neg (by omega), if_neg (by omega), if_neg (by omega), if_neg (by omega), if_neg (by omega), if_neg (by omega), if_neg (by omega), if_neg (by omega)]
  rw [e]
  exact ⟨by decide, by decide, by decide⟩
theorem a99 {x : Ng} : ∃ a l, H0 x = a :: l ∧ a2W a := by
 unfold H0
 split
 ·exact ⟨_, _, rfl, aP2 _⟩
 split
 ·exact ⟨_, _, rfl, by decide, by decide, by decide⟩
 split
 ·split
  ·exact ⟨_, _, rfl, by decide, by decide, by decide⟩
  ·exact ⟨_, _, rfl, by decide, by decide, by decide⟩
 split
 ·exact ⟨_, _, rfl, a5a _⟩
 split
 ·exact ⟨_, _, rfl, by decide, by decide, by decide⟩
 split
 ·exact ⟨_, _, rfl, a5a _⟩
 have hs : ∀ (k : Int) (b : Ky) (l : List Ky), a2W b → ∃ a l', a1s k ++ b :: l = a :: l' ∧ a2W a := fun k b l hb => by
  unfold a1s
  split
  ·exact ⟨_, _, rfl, by decide, by decide, by decide⟩
  ·split
   ·exact ⟨_, _, rfl, by decide, by decide, by decide⟩
   ·exact ⟨_, _, rfl, hb⟩
 split
 ·exact hs _ _ _ ⟨by decide, by decide, by decide⟩
 split
 ·exact hs _ _ _ ⟨by decide, by decide, by decide⟩
 split
 ·rw [List.nil_append]
  split
  ·exact hs _ _ _ ⟨by decide, by decide, by decide⟩
  ·exact hs _ _ _ ⟨by decide, by decide, by decide⟩
 ·exact ⟨_, _, rfl, a5a _⟩
theorem a6W {x : Ng} (h : arG x.kind = some 2) : (x.kind = 8 ∧ d4 x = 1) ∨ (x.kind = 7 ∧ d4 x = 2) ∨ (x.kind = 6 ∧ d4 x = 4) ∨ (x.kind = 4 ∧ 5 ≤ d4 x ∧ d4 x ≤ 10) := by
 have hk : x.kind = 4 ∨ x.kind = 6 ∨ x.kind = 7 ∨ x.kind = 8 := by
  rcases Z8 h with ⟨h1, -⟩ | ⟨-, h1⟩ | ⟨h1, -⟩
  ·cases h1
  ·exact h1
  ·cases h1
 unfold d4
 rcases hk with hk | hk | hk | hk
 ·refine .inr (.inr (.inr ⟨hk, ?_⟩))
  rw [if_neg (by omega), if_neg (by omega), if_neg (by omega), if_neg (by omega), if_neg (by omega), if_neg (by omega)]
  repeat' split
  all_goals omega
 ·exact .inr (.inr (.inl ⟨hk, by rw [hk]; rfl⟩))
 ·exact .inr (.inl ⟨hk, by rw [hk]; rfl⟩)
 ·exact .inl ⟨hk, by rw [hk]; rfl⟩
theorem a45 {x : Ng} (h : arG x.kind = some 1) : (x.kind = 3 ∧ d4 x = 12) ∨ (x.kind = 5 ∧ d4 x = 11) ∨ (x.kind = 9 ∧ d4 x = 3) := by
 have hk : x.kind = 3 ∨ x.kind = 5 ∨ x.kind = 9 := by
  rcases Z8 h with ⟨-, h1⟩ | ⟨h1, -⟩ | ⟨h1, -⟩
  ·exact h1
  ·cases h1
  ·cases h1
 unfold d4
 rcases hk with hk | hk | hk
 ·exact .inl ⟨hk, by rw [hk]; rfl⟩
 ·exact .inr (.inl ⟨hk, by rw [hk]; rfl⟩)
 ·exact .inr (.inr ⟨hk, by rw [hk]; rfl⟩)
theorem a5u (full : Bool) : ∀ T : Tr, T.Good → ∃ a l, T.ky full = a :: l ∧ (4 ≤ d4 T.root → kyB a U1 = false ∧ kyB a [33] = false) ∧ (d4 T.root = 12 → a2W a)
 | .leaf x, _ => by
  obtain ⟨a, l, h1, h2⟩ := a99 (x := x)
  exact ⟨a, l, h1, fun _ => ⟨h2.1, h2.2.1⟩, fun _ => h2⟩
 | .one x p, hg => by
  obtain ⟨h1, -, -⟩ := hg.one
  rw [Tr.ky]
  show ∃ a l, _ = a :: l ∧ (4 ≤ d4 x → _) ∧ (d4 x = 12 → _)
  rcases a45 h1 with ⟨hk, hr⟩ | ⟨hk, hr⟩ | ⟨hk, hr⟩
  ·rw [if_pos hk]
   have := a5a x.of
   exact ⟨_, _, rfl, fun _ => ⟨this.1, this.2.1⟩, fun _ => this⟩
  ·rw [if_neg (by omega), if_neg (by omega)]
   exact ⟨_, _, rfl, fun _ => ⟨by decide, by decide⟩, fun h => by omega⟩
  ·rw [if_neg (by omega), if_pos hk]
   exact ⟨_, _, rfl, fun h => by omega, fun h => by omega⟩
 | .two x p q, hg => by
  obtain ⟨h1, hx, hp, -⟩ := hg.two
  obtain ⟨a, l, e1, e2, -⟩ := a5u full p hp
  rw [Tr.ky]
  show ∃ a l, _ = a :: l ∧ (4 ≤ d4 x → _) ∧ (d4 x = 12 → _)
  have hr12 : ¬ d4 x = 12 := by rcases a6W h1 with h | h | h | h <;> omega
  cases hw : m8 full (d4 p.root) (if d4 x = 4 then 5 else d4 x) with
  | true => exact ⟨kS [40], _, rfl, fun _ => ⟨by decide, by decide⟩, fun h => absurd h hr12⟩
  | false =>
   refine ⟨a, _, by rw [e1]; rfl, fun h4 => e2 ?_, fun h => absurd h hr12⟩
   unfold m8 at hw
   have := of_decide_eq_false (Bool.or_eq_false_iff.1 hw).2
   split at this <;> omega
theorem a8e {g nest : Nat} {ts r : List Tk} {ns : List (Nd × Nat)} {k0 : Nat} (h0 : k0 ≤ 12) (h : d6 g k0 nest ts = .ok (ns, r)) : ∀ d, d < k0 →
  (∀ k, k0 - d ≤ k → k < k0 → (k = 3 → isB ts U1 = false ∧ isB ts [33] = false) ∧ (k = 11 → isB ts [45] = false) ∧ opT k r = none) → d6 (g + d) (k0 - d) nest ts = .ok (ns, r)
 | 0, _, _ => h
 | d + 1, hd, ho => by
  have ih := a8e h0 h d (by omega) (fun k h1 h2 => ho k (by omega) h2)
  have e : k0 - d = k0 - (d + 1) + 1 := by omega
  obtain ⟨o1, o2, o3⟩ := ho (k0 - (d + 1)) (Nat.le_refl _) (by omega)
  rw [e] at ih
  rw [← Nat.add_assoc]
  by_cases hk : k0 - (d + 1) = 3
  ·rw [J9]
   unfold L0
   have o3' : ¬ (k0 - (d + 1) = 3 ∧ (isB ts U1 = true ∨ isB ts [33] = true)) := by
    rintro ⟨-, h1 | h1⟩
    ·rw [(o1 hk).1] at h1; cases h1
    ·rw [(o1 hk).2] at h1; cases h1
   rw [if_neg o3', if_neg (by omega), if_pos (.inl hk)]
   exact ih
  ·by_cases hk' : k0 - (d + 1) = 11
   ·rw [J9]
    unfold L0
    rw [if_neg (by omega), if_neg (by rintro ⟨-, h1⟩; rw [o2 hk'] at h1; cases h1), if_pos (.inr hk')]
    exact ih
   ·exact b0u ⟨hk, hk', by omega⟩ o3 ih
theorem a33 {g nest k0 k : Nat} {ts r : List Tk} {ns : List (Nd × Nat)} (h0 : k0 ≤ 12) (h1 : 1 ≤ k) (h2 : k ≤ k0) (h : d6 g k0 nest ts = .ok (ns, r)) (hs : a1d k r) (hn : k ≤ 3 → 3 < k0 → isB ts U1 = false ∧ isB ts [33] = false) (hm : k ≤ 11 → 11 < k0 → isB ts [45] = false) :
  ∃ F, d6 F k nest ts = .ok (ns, r) := by
 refine ⟨g + (k0 - k), ?_⟩
 have := a8e h0 h (k0 - k) (by omega) (fun j j1 j2 => ⟨fun e => hn (by omega) (by omega), fun e => hm (by omega) (by omega), hs.2 j (by omega)⟩)
 rw [show k0 - (k0 - k) = k by omega] at this
 exact this
theorem a3Z {f g k nest : Nat} {ts : List Tk} {v : List (Nd × Nat) × List Tk} (hfg : f ≤ g) (h : d6 f k nest ts = .ok v) : d6 g k nest ts = .ok v := by
 rw [aa3 hfg (by rw [h]; intro h; cases h)]
 exact h
theorem aW6 {x : Ng} (h : arG x.kind = some 2) (hg : a2V x) : ∃ a : Ky, J4 x = a ∧ ∀ p B, a4o (⟨a.1, p, a.2.1, a.2.2⟩ :: B) ∧ (∃ nd, opT (d4 x).toNat (⟨a.1, p, a.2.1, a.2.2⟩ :: B) = some nd ∧ nd.g = x) ∧ ∀ j, j ≠ (d4 x).toNat → opT j (⟨a.1, p, a.2.1, a.2.2⟩ :: B) = none := by
 obtain ⟨hf, hr, hl⟩ := hg
 obtain ⟨hu, -, hm⟩ := a21 hf hl
 have hk : x.kind = 4 ∨ x.kind = 6 ∨ x.kind = 7 ∨ x.kind = 8 := by
  rcases Z8 h with ⟨h1, -⟩ | ⟨-, h1⟩ | ⟨h1, -⟩
  ·cases h1
  ·exact h1
  ·cases h1
 have hz : x.addr = f7 16 := a1I hf hl (by unfold j3; rcases hk with hk | hk | hk | hk <;> rw [hk] <;> rfl)
 have key : ∀ (a : Ky) (r : Nat) (nd : Nd), (a.1 = 5 ∨ a.1 = 2) → (∀ y ∈ [[91], D5, J8, I6, J0, H9], kyB a y = false) → q7 r a.2.1 = some nd → (∀ i : Fin 11, i.val ≠ r → (q7 i.val a.2.1).isNone = true) → J4 x = a → (d4 x).toNat = r → nd.g = x →
   ∃ a : Ky, J4 x = a ∧ ∀ p B, a4o (⟨a.1, p, a.2.1, a.2.2⟩ :: B) ∧ (∃ nd, opT (d4 x).toNat (⟨a.1, p, a.2.1, a.2.2⟩ :: B) = some nd ∧ nd.g = x) ∧ ∀ j, j ≠ (d4 x).toNat → opT j (⟨a.1, p, a.2.1, a.2.2⟩ :: B) = none := by
  intro a r nd ha hy hb ho hs hrr hnd
  refine ⟨a, hs, fun p B => ⟨fun y hy' => hy y hy', ⟨nd, ?_, hnd⟩, fun j hj => ?_⟩⟩
  ·unfold opT
   rw [hrr]
   exact (if_pos ha).trans hb
  ·unfold opT
   rw [hrr] at hj
   exact (if_pos ha).trans (ak9 ho j hj)
 have hx4 : ∀ o : Nat, x.kind = 4 → x.op = o → ({ ndK 4 with op := o } : Nd).g = x := fun o h1 h2 => by
  rw [hu, hz]
  unfold j3
  rw [if_neg (by omega), if_neg (by omega), if_pos (.inl h1), h1, h2]
  rfl
 have hx6 : ∀ o : Nat, x.kind = 6 → x.op = o → ({ ndK 6 with op := o } : Nd).g = x := fun o h1 h2 => by
  rw [hu, hz]
  unfold j3
  rw [if_neg (by omega), if_neg (by omega), if_pos (.inr h1), h1, h2]
  rfl
 rcases hk with hk | hk | hk | hk
 ·have ho := a0s (show inG x.op 1 10 = true by unfold m4 at hm; rw [hk] at hm; exact hm)
  have : x.op = 1 ∨ x.op = 2 ∨ x.op = 3 ∨ x.op = 4 ∨ x.op = 5 ∨ x.op = 6 ∨ x.op = 7 ∨ x.op = 8 ∨ x.op = 9 ∨ x.op = 10 := by omega
  rcases this with e | e | e | e | e | e | e | e | e | e
  ·exact key (kS [43]) 9 _ (.inl rfl) (by decide) rfl (by decide) (by unfold J4 a07; rw [hk, e]; rfl) (by unfold d4; rw [hk, e]; rfl) (hx4 1 hk e)
  ·exact key (kS [45]) 9 _ (.inl rfl) (by decide) rfl (by decide) (by unfold J4 a07; rw [hk, e]; rfl) (by unfold d4; rw [hk, e]; rfl) (hx4 2 hk e)
  ·exact key (kS [42]) 10 _ (.inl rfl) (by decide) rfl (by decide) (by unfold J4 a07; rw [hk, e]; rfl) (by unfold d4; rw [hk, e]; rfl) (hx4 3 hk e)
  ·exact key (kS [47]) 10 _ (.inl rfl) (by decide) rfl (by decide) (by unfold J4 a07; rw [hk, e]; rfl) (by unfold d4; rw [hk, e]; rfl) (hx4 4 hk e)
  ·exact key (kS [37]) 10 _ (.inl rfl) (by decide) rfl (by decide) (by unfold J4 a07; rw [hk, e]; rfl) (by unfold d4; rw [hk, e]; rfl) (hx4 5 hk e)
  ·exact key (kS [38]) 7 _ (.inl rfl) (by decide) rfl (by decide) (by unfold J4 a07; rw [hk, e]; rfl) (by unfold d4; rw [hk, e]; rfl) (hx4 6 hk e)
  ·exact key (kS [124]) 5 _ (.inl rfl) (by decide) rfl (by decide) (by unfold J4 a07; rw [hk, e]; rfl) (by unfold d4; rw [hk, e]; rfl) (hx4 7 hk e)
  ·exact key (kS [94]) 6 _ (.inl rfl) (by decide) rfl (by decide) (by unfold J4 a07; rw [hk, e]; rfl) (by unfold d4; rw [hk, e]; rfl) (hx4 8 hk e)
  ·exact key (kS [60, 60]) 8 _ (.inl rfl) (by decide) rfl (by decide) (by unfold J4 a07; rw [hk, e]; rfl) (by unfold d4; rw [hk, e]; rfl) (hx4 9 hk e)
  ·exact key (kS [62, 62]) 8 _ (.inl rfl) (by decide) rfl (by decide) (by unfold J4 a07; rw [hk, e]; rfl) (by unfold d4; rw [hk, e]; rfl) (hx4 10 hk e)
 ·have ho := a0s (show inG x.op 1 6 = true by unfold m4 at hm; rw [hk] at hm; exact hm)
  have : x.op = 1 ∨ x.op = 2 ∨ x.op = 3 ∨ x.op = 4 ∨ x.op = 5 ∨ x.op = 6 := by omega
  rcases this with e | e | e | e | e | e
  ·exact key (kS [61]) 4 _ (.inl rfl) (by decide) rfl (by decide) (by unfold J4 a0S; rw [hk, e]; rfl) (by unfold d4; rw [hk]; rfl) (hx6 1 hk e)
  ·exact key (kS [33, 61]) 4 _ (.inl rfl) (by decide) rfl (by decide) (by unfold J4 a0S; rw [hk, e]; rfl) (by unfold d4; rw [hk]; rfl) (hx6 2 hk e)
  ·exact key (kS [60]) 4 _ (.inl rfl) (by decide) rfl (by decide) (by unfold J4 a0S; rw [hk, e]; rfl) (by unfold d4; rw [hk]; rfl) (hx6 3 hk e)
  ·exact key (kS [60, 61]) 4 _ (.inl rfl) (by decide) rfl (by decide) (by unfold J4 a0S; rw [hk, e]; rfl) (by unfold d4; rw [hk]; rfl) (hx6 4 hk e)
  ·exact key (kS [62]) 4 _ (.inl rfl) (by decide) rfl (by decide) (by unfold J4 a0S; rw [hk, e]; rfl) (by unfold d4; rw [hk]; rfl) (hx6 5 hk e)
  ·exact key (kS [62, 61]) 4 _ (.inl rfl) (by decide) rfl (by decide) (by unfold J4 a0S; rw [hk, e]; rfl) (by unfold d4; rw [hk]; rfl) (hx6 6 hk e)
 ·refine key (kW V0) 2 (ndK 7) (.inr rfl) (by decide) rfl (by decide) (by unfold J4; rw [hk]; rfl) (by unfold d4; rw [hk]; rfl) ?_
  rw [hu, hz]
  unfold j3
  rw [hk]
  rfl
 ·refine key (kW wOr) 1 (ndK 8) (.inr rfl) (by decide) rfl (by decide) (by unfold J4; rw [hk]; rfl) (by unfold d4; rw [hk]; rfl) ?_
  rw [hu, hz]
  unfold j3
  rw [hk]
  rfl
def a3F (full : Bool) (T : Tr) : Prop := ∀ (k nest : Nat) (A R : List Tk), 1 ≤ k → (k : Int) ≤ d4 T.root → nest + (T.txt full).2 ≤ 200 → A.map Tk.ky = T.ky full → a1d k R →
 ∃ F ns, d6 F k nest (A ++ R) = .ok (ns, R) ∧ ns.map (·.1.g) = T.flat
def a2X (r nest : Nat) (A R : List Tk) (t : List Ng) : Prop :=
 ∃ F f ns, R.length ≤ f ∧ (∀ G, F ≤ G → d6 (G + 1) r nest (A ++ R) = q9 (d6 G (r + 1) nest) r f ns R) ∧ ns.map (·.1.g) = t
theorem a5g {x : Ng} : 1 ≤ d4 x := by
 unfold d4
 repeat' split
 all_goals decide
theorem a3C {full : Bool} {row least : Int} (h : m8 full row least = false) : least ≤ row := by
 unfold m8 at h
 have := of_decide_eq_false (Bool.or_eq_false_iff.1 h).2
 omega
theorem ad2 {t : Tk} (hx : t.text = [93] ∨ t.text = [58]) (ht : t.kind = 5) (r : List Tk) : a3G (t :: r) := by
 refine ⟨fun x hm => ?_, fun k => ?_⟩
 ·show ((t.kind == 5 || t.kind == 2) && t.text == x) = false
  simp only [List.mem_cons, List.not_mem_nil, or_false] at hm
  rcases hx with hx | hx <;> rw [hx] <;> rcases hm with rfl | rfl | rfl | rfl | rfl | rfl <;> simp [D5, J8, I6, J0, H9]
 ·unfold opT
  show (if t.kind = 5 ∨ t.kind = 2 then q7 k t.text else none) = none
  rw [if_pos (.inl ht)]
  unfold q7 a2c
  rcases hx with hx | hx <;> rw [hx] <;> simp [wOr, V0]
theorem a9Z {x : Ng} : d4 x ≤ 12 := by
 unfold d4
 repeat' split
 all_goals decide
theorem a3t {full : Bool} {T : Tr} (hg : T.Good) (hM : a3F full T) {want : Bool} {k nest : Nat} {A R : List Tk} (h1 : 1 ≤ k) (h12 : k ≤ 12) (hk : want = false → (k : Int) ≤ d4 T.root) (hd : nest + (y6 want (T.txt full)).2 ≤ 200)
  (hA : A.map Tk.ky = a1V want (T.ky full)) (hs : a1d k R) : ∃ F ns, d6 F k nest (A ++ R) = .ok (ns, R) ∧ ns.map (·.1.g) = T.flat := by
 cases want with
 | false => exact hM k nest A R h1 (hk rfl) hd hA hs
 | true =>
  obtain ⟨p, B, rfl, hB⟩ := E0 (a := kS [40]) (l := T.ky full ++ [kS [41]]) hA
  obtain ⟨C, D, rfl, hC, hD⟩ := a1Q hB
  obtain ⟨q, E, rfl, hE⟩ := E0 (a := kS [41]) (l := []) hD
  obtain rfl := W7 hE
  have hd' : nest + ((T.txt full).2 + 1) ≤ 200 := hd
  obtain ⟨t, l, e1, -, -⟩ := a5u full T hg
  have hb := aZ4 (t := ⟨5, q, [41], 0⟩) rfl rfl R
  have hr1 : (1 : Int) ≤ d4 T.root := a5g
  obtain ⟨F, ns, f1, f2⟩ := hM 1 (nest + 1) C (⟨5, q, [41], 0⟩ :: R) (Nat.le_refl _) hr1 (by omega) hC (a7d hb)
  have lp : lpB ⟨5, p, [40], 0⟩ := ⟨rfl, rfl⟩
  have h3 : d6 (F + 1) 12 nest (⟨5, p, [40], 0⟩ :: (C ++ (⟨5, q, [41], 0⟩ :: R))) = .ok (ns, R) := by
   rw [a6V, aD4 lp]
   unfold y0
   rw [if_neg (by omega), f1, D0]
   show d7 (m9 [41] (⟨5, q, [41], 0⟩ :: R)) _ = _
   rw [a40, D0]
  obtain ⟨F2, h4⟩ := a33 (Nat.le_refl 12) h1 h12 h3 hs (fun _ _ => ⟨by rw [a4S lp]; rfl, by rw [a4S lp]; rfl⟩) (fun _ _ => by rw [a4S lp]; rfl)
  refine ⟨F2, ns, ?_, f2⟩
  rw [show ⟨(kS [40]).1, p, (kS [40]).2.1, (kS [40]).2.2⟩ :: (C ++ [⟨(kS [41]).1, q, (kS [41]).2.1, (kS [41]).2.2⟩]) ++ R = (⟨5, p, [40], 0⟩ : Tk) :: (C ++ (⟨5, q, [41], 0⟩ :: R)) by simp [kS]]
  exact h4
theorem a5e {F r nest : Nat} {A R : List Tk} {ns : List (Nd × Nat)} {t : List Ng} (hr : r ≠ 3 ∧ r ≠ 11 ∧ r ≠ 12) (h : d6 F (r + 1) nest (A ++ R) = .ok (ns, R)) (hn : ns.map (·.1.g) = t) : a2X r nest A R t := by
 refine ⟨F, R.length, ns, Nat.le_refl _, fun G hG => ?_, hn⟩
 rw [J9]
 unfold L0
 rw [if_neg (by omega), if_neg (by omega), if_neg (by omega), if_neg (by omega), a3Z hG h, D0]
theorem aY5 {F2 r nest pos : Nat} {a : Ky} {Ap Aq R : List Tk} {nsq : List (Nd × Nat)} {nd : Nd} {x : Ng} {tp tq : List Ng} (hr4 : r ≠ 4) (hop : opT r (⟨a.1, pos, a.2.1, a.2.2⟩ :: (Aq ++ R)) = some nd) (hx : nd.g = x)
  (hp : a2X r nest Ap (⟨a.1, pos, a.2.1, a.2.2⟩ :: (Aq ++ R)) tp) (hq : d6 F2 (r + 1) nest (Aq ++ R) = .ok (nsq, R)) (hn : nsq.map (·.1.g) = tq) : a2X r nest (Ap ++ ⟨a.1, pos, a.2.1, a.2.2⟩ :: Aq) R (tp ++ tq ++ [x]) := by
 obtain ⟨F, f, ns, hf, h1, h2⟩ := hp
 obtain ⟨g, rfl⟩ : ∃ g, f = g + 1 := ⟨f - 1, by simp only [List.length_cons] at hf; omega⟩
 refine ⟨max F F2, g, ns ++ nsq ++ [(nd, pos)], ?_, fun G hG => ?_, ?_⟩
 ·simp only [List.length_cons, List.length_append] at hf
  omega
 ·rw [List.append_assoc, List.cons_append, h1 G (by omega)]
  show (match opT r _ with | none => _ | some nd => _) = _
  rw [hop]
  show d7 (d6 G (r + 1) nest (Aq ++ R)) _ = _
  rw [a3Z (show F2 ≤ G by omega) hq, D0, if_neg hr4]
  rfl
 ·simp only [List.map_append, List.map_cons, List.map_nil, h2, hn, hx]
theorem aY4 {rec : List Tk → Out} {k : Nat} {R : List Tk} (h : opT k R = none) (f : Nat) (ns : List (Nd × Nat)) : q9 rec k f ns R = .ok (ns, R) := by
 cases f with
 | zero => rfl
 | succ n => unfold q9; rw [h]
theorem b0k (full : Bool) : ∀ T : Tr, T.Good → a3F full T ∧ ∀ (r nest : Nat) (A R : List Tk), r ≠ 3 ∧ r ≠ 4 ∧ r ≠ 11 ∧ r ≠ 12 → 1 ≤ r → (r : Int) ≤ d4 T.root → nest + (T.txt full).2 ≤ 200 → A.map Tk.ky = T.ky full → a1d (r + 1) R → a2X r nest A R T.flat := by
 intro T
 induction T with
 | leaf x =>
  intro hg
  have ha : arG x.kind = some 0 := hg.1
  obtain ⟨hf, hr, hl⟩ := hg.2 x (by simp [Tr.flat])
  have hM : a3F full (.leaf x) := fun k nest A R h1 hk _ hA hs => by
   obtain ⟨d, p, e1, e2⟩ := aB1 ha hf hr hl hA hs.1 (d6 0 1) nest
   have h12 : (k : Int) ≤ 12 := by have := a9Z (x := x); exact Int.le_trans hk this
   obtain ⟨a, l, i1, i2⟩ := a99 (x := x)
   have hh : ∀ y, isB (A ++ R) y = kyB a y := fun y => by
    obtain ⟨p, B, rfl, -⟩ := E0 (hA.trans i1)
    rfl
   obtain ⟨F, h3⟩ := a33 (k0 := 12) (Nat.le_refl 12) h1 (by omega) (a6V.trans e1) hs (fun _ _ => ⟨(hh _).trans i2.1, (hh _).trans i2.2.1⟩) (fun _ _ => (hh _).trans i2.2.2)
   exact ⟨F, _, h3, by show [d.g] = _; rw [e2]; rfl⟩
  refine ⟨hM, fun r nest A R hr3 h1 hk hd hA hs => ?_⟩
  have hr12 : r + 1 ≤ 12 := by have := a9Z (x := x); have h : (r : Int) ≤ d4 x := hk; omega
  obtain ⟨F, ns, e1, e2⟩ := hM (r + 1) nest A R (by omega) (by show _ ≤ d4 x; rw [aa0 ha]; omega) hd hA hs
  exact a5e ⟨hr3.1, hr3.2.2⟩ e1 e2
 | one x p ih =>
  intro hg
  obtain ⟨h1, hx, hp⟩ := hg.one
  obtain ⟨hf, hrg, hl⟩ := hx
  obtain ⟨hM, -⟩ := ih hp
  obtain ⟨hu, -, hm⟩ := a21 hf hl
  have hz : x.addr = f7 16 := a1I hf hl (by unfold j3; rcases a45 h1 with ⟨hk, -⟩ | ⟨hk, -⟩ | ⟨hk, -⟩ <;> rw [hk] <;> rfl)
  have hM2 : a3F full (.one x p) := fun k nest A R k1 hk hd hA hs => by
   have hk' : (k : Int) ≤ d4 x := hk
   obtain ⟨b, l, i1, i2, i3⟩ := a5u full (.one x p) hg
   have hh : ∀ y, isB (A ++ R) y = kyB b y := fun y => by
    obtain ⟨p, B, rfl, -⟩ := E0 (hA.trans i1)
    rfl
   rcases a45 h1 with ⟨hk3, hr⟩ | ⟨hk5, hr⟩ | ⟨hk9, hr⟩
   ·have hof := a0s (show inG x.of 1 12 = true by unfold m4 at hm; rw [hk3] at hm; exact hm)
    have hsz := (a2q hf hrg).2.2.2.2.2.2.2.1 hk3
    rw [Tr.ky, if_pos hk3] at hA
    rw [Tr.txt, if_pos hk3] at hd
    have hd' : nest + ((p.txt full).2 + 1) ≤ 200 := hd
    obtain ⟨pn, B, rfl, hB⟩ := E0 hA
    obtain ⟨pb, C, rfl, hC⟩ := E0 hB
    obtain ⟨D, E, rfl, hD, hE⟩ := a1Q hC
    obtain ⟨S, Z, rfl, hS, hZ⟩ := a1Q hE
    obtain ⟨pz, Y, rfl, hY⟩ := E0 hZ
    obtain rfl := W7 hY
    have hsize : a3G (S ++ (⟨5, pz, [93], 0⟩ :: R)) ∧ a0c (S ++ (⟨5, pz, [93], 0⟩ :: R)) = .ok (x.size.toNat, R) := by
     unfold a5o at hS
     by_cases hs1 : x.size = 1
     ·rw [if_pos hs1] at hS
      obtain rfl := W7 hS
      refine ⟨ad2 (.inl rfl) rfl R, ?_⟩
      unfold a0c
      rw [List.nil_append, a3S, if_neg (by decide), a40, D0, hs1]
      rfl
     ·rw [if_neg hs1] at hS
      obtain ⟨u, U, rfl, hU⟩ := E0 hS
      obtain ⟨v, V, rfl, hV⟩ := E0 hU
      obtain rfl := W7 hV
      refine ⟨ad2 (.inr rfl) rfl _, ?_⟩
      unfold a0c
      show (if isB (⟨5, u, [58], 0⟩ :: ⟨1, v, dec x.size.toNat, x.size.toNat⟩ :: ⟨5, pz, [93], 0⟩ :: R) [58] = true then _ else _) = _
      rw [a3S, if_pos (by decide)]
      show d7 (j7 (⟨1, v, dec x.size.toNat, x.size.toNat⟩ :: ⟨5, pz, [93], 0⟩ :: R)) _ = _
      rw [a54, D0]
      show d7 (m9 [93] (⟨5, pz, [93], 0⟩ :: R)) _ = _
      rw [a40, D0]
    have hr1 : (1 : Int) ≤ d4 p.root := a5g
    obtain ⟨F, ns, e1, e2⟩ := hM 1 (nest + 1) D (S ++ (⟨5, pz, [93], 0⟩ :: R)) (Nat.le_refl _) (by omega) (by omega) hD (a7d hsize.1)
    have h3 : d6 (F + 1) 12 nest (⟨2, pn, j6 x.of, 0⟩ :: ⟨5, pb, [91], 0⟩ :: (D ++ (S ++ (⟨5, pz, [93], 0⟩ :: R)))) = .ok (ns ++ [({ ndK 3 with of := x.of.toNat, size := x.size.toNat }, pn)], R) := by
     rw [a6V, a5q ⟨by omega, by omega⟩]
     unfold M1
     rw [a3S, if_pos ⟨by decide, by omega⟩]
     unfold y0
     rw [if_neg (by omega)]
     show d7 (d6 F 1 (nest + 1) (D ++ (S ++ (⟨5, pz, [93], 0⟩ :: R)))) _ = _
     rw [e1, D0]
     show d7 (a0c (S ++ (⟨5, pz, [93], 0⟩ :: R))) _ = _
     rw [hsize.2, D0]
    have hR : (⟨(kW (j6 x.of)).1, pn, (kW (j6 x.of)).2.1, (kW (j6 x.of)).2.2⟩ : Tk) :: ⟨(kS [91]).1, pb, (kS [91]).2.1, (kS [91]).2.2⟩ :: (D ++ (S ++ [⟨(kS [93]).1, pz, (kS [93]).2.1, (kS [93]).2.2⟩])) ++ R = ⟨2, pn, j6 x.of, 0⟩ :: ⟨5, pb, [91], 0⟩ :: (D ++ (S ++ (⟨5, pz, [93], 0⟩ :: R))) := by simp [kW, kS]
    rw [hR] at hh ⊢
    have i3 := i3 (show d4 x = 12 from hr)
    obtain ⟨G, h4⟩ := a33 (Nat.le_refl 12) k1 (by omega) h3 hs (fun _ _ => ⟨(hh _).trans i3.1, (hh _).trans i3.2.1⟩) (fun _ _ => (hh _).trans i3.2.2)
    refine ⟨G, _, h4, ?_⟩
    have hn : ({ ndK 3 with of := x.of.toNat, size := x.size.toNat } : Nd).g = x := by
     rw [hu, hz]
     unfold j3
     rw [if_neg (by omega), if_pos hk3, hk3]
     show (⟨3, 0, 0, 0, (x.size.toNat : Int), (x.of.toNat : Int), 0, _, 0⟩ : Ng) = _
     rw [show (x.size.toNat : Int) = x.size by omega, show (x.of.toNat : Int) = x.of by omega]
     rfl
    simp only [List.map_append, List.map_cons, List.map_nil, e2, hn]
    rfl
   ·rw [Tr.ky, if_neg (by omega), if_neg (by omega)] at hA
    rw [Tr.txt, if_neg (by omega), if_neg (by omega), hr] at hd
    rw [hr] at hA
    have hd' : nest + ((y6 (m8 full (d4 p.root) 11) (p.txt full)).2 + 1) ≤ 200 := hd
    obtain ⟨pn, B, rfl, hB⟩ := E0 hA
    obtain ⟨F, ns, e1, e2⟩ := a3t hp hM (want := m8 full (d4 p.root) 11) (k := 11) (nest := nest + 1) (R := R) (by omega) (by omega) (fun hw => by have := a3C hw; omega) (by omega) hB (hs.up (by omega))
    have h3 : d6 (F + 1) 11 nest (⟨5, pn, [45], 0⟩ :: (B ++ R)) = .ok (ns ++ [(ndK 5, pn)], R) := by
     rw [J9]
     unfold L0
     rw [if_neg (by omega), a3S, if_pos ⟨rfl, by decide⟩]
     unfold y0
     rw [if_neg (by omega)]
     show d7 (d6 F 11 (nest + 1) (B ++ R)) _ = _
     rw [e1, D0]
     rfl
    have h4' : 4 ≤ d4 x := by omega
    have i2 := i2 h4'
    obtain ⟨G, h4⟩ := a33 (by omega) k1 (by omega) h3 hs (fun _ _ => ⟨(hh _).trans i2.1, (hh _).trans i2.2⟩) (fun _ h => absurd h (by omega))
    refine ⟨G, _, h4, ?_⟩
    have hn : (ndK 5).g = x := by
     rw [hu, hz]
     unfold j3
     rw [hk5]
     rfl
    simp only [List.map_append, List.map_cons, List.map_nil, e2, hn]
    rfl
   ·rw [Tr.ky, if_neg (by omega), if_pos hk9] at hA
    rw [Tr.txt, if_neg (by omega), if_pos hk9, hr] at hd
    rw [hr] at hA
    have hd' : nest + ((y6 (m8 full (d4 p.root) 3) (p.txt full)).2 + 1) ≤ 200 := hd
    obtain ⟨pn, B, rfl, hB⟩ := E0 hA
    obtain ⟨F, ns, e1, e2⟩ := a3t hp hM (want := m8 full (d4 p.root) 3) (k := 3) (nest := nest + 1) (R := R) (by omega) (by omega) (fun hw => by have := a3C hw; omega) (by omega) hB (hs.up (by omega))
    have h3 : d6 (F + 1) 3 nest (⟨2, pn, U1, 0⟩ :: (B ++ R)) = .ok (ns ++ [(ndK 9, pn)], R) := by
     rw [J9]
     unfold L0
     rw [a0t, if_pos ⟨rfl, .inl (by decide)⟩]
     unfold y0
     rw [if_neg (by omega)]
     show d7 (d6 F 3 (nest + 1) (B ++ R)) _ = _
     rw [e1, D0]
     rfl
    obtain ⟨G, h4⟩ := a33 (by omega) k1 (by omega) h3 hs (fun _ h => absurd h (by omega)) (fun _ h => absurd h (by omega))
    refine ⟨G, _, h4, ?_⟩
    have hn : (ndK 9).g = x := by
     rw [hu, hz]
     unfold j3
     rw [hk9]
     rfl
    simp only [List.map_append, List.map_cons, List.map_nil, e2, hn]
    rfl
  refine ⟨hM2, fun r nest A R hr3 k1 hk hd hA hs => ?_⟩
  have hk' : (r : Int) ≤ d4 x := hk
  obtain ⟨F, ns, e1, e2⟩ := hM2 (r + 1) nest A R (by omega) (by show _ ≤ d4 x; rcases a45 h1 with h | h | h <;> omega) hd hA hs
  exact a5e ⟨hr3.1, hr3.2.2⟩ e1 e2
 | two x p q ihp ihq =>
  intro hg
  obtain ⟨h1, hx, hp, hq⟩ := hg.two
  obtain ⟨hMp, hLp⟩ := ihp hp
  obtain ⟨hMq, -⟩ := ihq hq
  obtain ⟨a, hsa, hsg⟩ := aW6 h1 hx
  obtain ⟨rn, hrn⟩ : ∃ rn : Nat, d4 x = rn := ⟨(d4 x).toNat, by have := a5g (x := x); omega⟩
  rw [hrn] at hsg
  simp only [Int.toNat_natCast] at hsg
  have hrx : rn ≤ 10 ∧ rn ≠ 3 ∧ 1 ≤ rn := by rcases a6W h1 with h | h | h | h <;> omega
  have hroot : d4 (Tr.two x p q).root = (rn : Int) := hrn
  have hown : ∀ (nest : Nat) (A R : List Tk), rn ≠ 4 → nest + ((Tr.two x p q).txt full).2 ≤ 200 → A.map Tk.ky = (Tr.two x p q).ky full → a1d (rn + 1) R → a2X rn nest A R (Tr.two x p q).flat := fun nest A R h4 hd hA hs => by
   rw [Tr.ky, hrn, if_neg (by omega), hsa] at hA
   rw [Tr.txt, hrn, if_neg (by omega)] at hd
   have hd' : nest + max (y6 (m8 full (d4 p.root) rn) (p.txt full)).2 (y6 (m8 full (d4 q.root) (rn + 1)) (q.txt full)).2 ≤ 200 := hd
   obtain ⟨Ap, B, rfl, hAp, hB⟩ := a1Q hA
   obtain ⟨pos, Aq, rfl, hAq⟩ := E0 hB
   obtain ⟨F2, nsq, q1, q2⟩ := a3t hq hMq (k := rn + 1) (nest := nest) (R := R) (by omega) (by omega) (fun hw => by have := a3C hw; omega) (by omega) hAq hs
   obtain ⟨g1, ⟨nd, g2, g3⟩, g4⟩ := hsg pos (Aq ++ R)
   have hst : a1d (rn + 1) (⟨a.1, pos, a.2.1, a.2.2⟩ :: (Aq ++ R)) := ⟨g1, fun j hj => g4 j (by omega)⟩
   have hpL : a2X rn nest Ap (⟨a.1, pos, a.2.1, a.2.2⟩ :: (Aq ++ R)) p.flat := by
    cases hw : m8 full (d4 p.root) rn with
    | false =>
     rw [hw] at hAp hd'
     exact hLp rn nest Ap _ ⟨hrx.2.1, h4, by omega, by omega⟩ hrx.2.2 (a3C hw) (by have : (y6 false (p.txt full)).2 = (p.txt full).2 := rfl; omega) hAp hst
    | true =>
     rw [hw] at hAp hd'
     obtain ⟨F, ns, p1, p2⟩ := a3t hp hMp (want := true) (k := rn + 1) (nest := nest) (by omega) (by omega) (fun h => by cases h) (by omega) hAp hst
     exact a5e ⟨hrx.2.1, by omega, by omega⟩ p1 p2
   exact aY5 h4 g2 g3 hpL q1 q2
  have hM2 : a3F full (.two x p q) := fun k nest A R k1 hk hd hA hs => by
   rw [hroot] at hk
   have hk' : k ≤ rn := by omega
   obtain ⟨b, l, i1, i2, -⟩ := a5u full (.two x p q) hg
   have hh : ∀ y, isB (A ++ R) y = kyB b y := fun y => by
    obtain ⟨p, B, rfl, -⟩ := E0 (hA.trans i1)
    rfl
   have h3 : ∃ F ns, d6 F rn nest (A ++ R) = .ok (ns, R) ∧ ns.map (·.1.g) = (Tr.two x p q).flat := by
    by_cases h4 : rn = 4
    ·rw [Tr.ky, hrn, if_pos (by omega), hsa] at hA
     rw [Tr.txt, hrn, if_pos (by omega)] at hd
     have hd' : nest + max (y6 (m8 full (d4 p.root) 5) (p.txt full)).2 (y6 (m8 full (d4 q.root) (rn + 1)) (q.txt full)).2 ≤ 200 := hd
     obtain ⟨Ap, B, rfl, hAp, hB⟩ := a1Q hA
     obtain ⟨pos, Aq, rfl, hAq⟩ := E0 hB
     obtain ⟨F2, nsq, q1, q2⟩ := a3t hq hMq (k := 5) (nest := nest) (R := R) (by omega) (by omega) (fun hw => by have := a3C hw; omega) (by omega) hAq (hs.up (by omega))
     obtain ⟨g1, ⟨nd, g2, g3⟩, g4⟩ := hsg pos (Aq ++ R)
     have hst : a1d 5 (⟨a.1, pos, a.2.1, a.2.2⟩ :: (Aq ++ R)) := ⟨g1, fun j hj => g4 j (by omega)⟩
     obtain ⟨F1, nsp, p1, p2⟩ := a3t hp hMp (want := m8 full (d4 p.root) 5) (k := 5) (nest := nest) (by omega) (by omega) (fun hw => by have := a3C hw; omega) (by omega) hAp hst
     refine ⟨max F1 F2 + 1, nsp ++ nsq ++ [(nd, pos)], ?_, ?_⟩
     ·rw [h4] at g2
      rw [h4, J9]
      unfold L0
      rw [if_neg (by omega), if_neg (by omega), if_neg (by omega), if_neg (by omega), List.append_assoc, List.cons_append, a3Z (Nat.le_max_left F1 F2) p1, D0]
      show q9 _ 4 ((Aq ++ R).length + 1) nsp _ = _
      unfold q9
      rw [g2]
      show d7 (d6 (max F1 F2) 5 nest (Aq ++ R)) _ = _
      rw [a3Z (Nat.le_max_right F1 F2) q1, D0, if_pos rfl]
      rfl
     ·simp only [List.map_append, List.map_cons, List.map_nil, p2, q2, g3]
      rfl
    ·obtain ⟨F, f, ns, -, e1, e2⟩ := hown nest A R h4 hd hA (hs.up (by omega))
     exact ⟨F + 1, ns, (e1 F (Nat.le_refl _)).trans (aY4 (hs.2 rn (by omega)) _ _), e2⟩
   obtain ⟨F, ns, e1, e2⟩ := h3
   obtain ⟨G, h5⟩ := a33 (by omega) k1 hk' e1 hs (fun _ h => by
    have h4' : 4 ≤ d4 x := by omega
    have i2 := i2 h4'
    exact ⟨(hh _).trans i2.1, (hh _).trans i2.2⟩) (fun _ h => absurd h (by omega))
   exact ⟨G, ns, h5, e2⟩
  refine ⟨hM2, fun r nest A R hr3 k1 hk hd hA hs => ?_⟩
  rw [hroot] at hk
  by_cases hr : r = rn
  ·rw [hr] at hs ⊢
   exact hown nest A R (by omega) hd hA hs
  ·obtain ⟨F, ns, e1, e2⟩ := hM2 (r + 1) nest A R (by omega) (by rw [hroot]; omega) hd hA hs
   exact a5e ⟨hr3.1, hr3.2.2⟩ e1 e2

end Go.Proofs.YtklipelnjgpnjaaGreatDoor
