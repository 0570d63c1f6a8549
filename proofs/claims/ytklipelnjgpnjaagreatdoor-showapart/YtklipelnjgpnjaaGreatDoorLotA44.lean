import Derived.Test.YtklipelnjgpnjaaGreatDoorLotA24
namespace Go.Proofs.YtklipelnjgpnjaaGreatDoor
open Go.RowKit
set_option maxRecDepth 100000
theorem parse6_pairs (zs : List UInt8) (hz : zs.length = 16) : parse6V (print6V (pairsG zs)) = some zs := by
 rw [parse6_print6 _ (pairs_len 8 zs (by omega)) (pairs_lt zs), bytes_pairs 8 zs (by omega)]
theorem head_text {x : Ng} (hf : formG x = true) (hl : x.addr.length = 16) (hk : x.kind = 14 ∨ x.kind = 15) (p : Nat) (R : List Tk) (k : Nat) :
  ∃ d, addrT k (⟨(kA x).1, p, (kA x).2.1, (kA x).2.2⟩ :: R) = .ok (d, R) ∧ d = { ndK k with of := x.of.toNat, addr := x.addr } := by
 have hm := (form_use hf hl).2.2
 have hh : hostG x = true := by
  unfold mayG at hm
  rw [if_neg (by omega), if_neg (by omega), if_neg (by omega), if_neg (by omega), if_neg (by omega), if_neg (by omega), if_pos hk] at hm
  exact hm
 unfold hostG at hh
 simp only [Bool.and_eq_true, Bool.or_eq_true, beq_iff_eq, decide_eq_true_eq] at hh
 obtain ⟨⟨h1, -⟩, h3⟩ := hh
 have hof := in_le h1
 have hid := adgs_id hl
 by_cases h : x.of = 3
 ·refine ⟨_, ?_, rfl⟩
  unfold addrT kA adrT
  rw [if_neg (by rw [if_pos h]; show ¬ (4 = 3); decide), if_pos (by rw [if_pos h]; rfl)]
  show (match parse6V (if x.of = 3 then _ else _) with | some a => _ | none => _) = _
  rw [if_pos h, parse6_pairs _ (by rw [hid, hl])]
  show Except.ok _ = _
  rw [hid, h]
  rfl
 ·have h2 : x.of = 2 := by omega
  have h3 : (adgs x).drop 4 = zeros 12 := h3.resolve_left h
  refine ⟨_, ?_, rfl⟩
  unfold addrT kA adrT
  rw [if_pos (by rw [if_neg h]; rfl)]
  show (match parse4V (if x.of = 3 then _ else _) with | some a => _ | none => _) = _
  rw [if_neg h, parse4_print4 _ (by rw [List.length_take, hid, hl]; rfl)]
  show Except.ok _ = _
  have e : (adgs x).take 4 ++ List.replicate 12 0 = x.addr := by
   rw [show List.replicate 12 (0 : UInt8) = zeros 12 from rfl, ← h3, List.take_append_drop, hid]
  rw [e, h2]
  rfl
theorem side_read {k : Int} (hk : 0 ≤ k ∧ k ≤ 2) {A R : List Tk} (hA : A.map Tk.ky = sideK k) (hR : sideN R = 0) : sideN (A ++ R) = k.toNat ∧ sideR (A ++ R) = R ∧ (k ≠ 0 → ∃ p t, (t = wSrc ∨ t = wDst) ∧ A = [⟨2, p, t, 0⟩]) ∧ (k = 0 → A = []) := by
 have : k = 0 ∨ k = 1 ∨ k = 2 := by omega
 rcases this with rfl | rfl | rfl
 ·obtain rfl := ky_nil hA
  refine ⟨hR, ?_, fun h => absurd rfl h, fun _ => rfl⟩
  unfold sideR
  rw [List.nil_append, if_pos hR]
 ·obtain ⟨p, B, rfl, hB⟩ := ky_cons (a := kW wSrc) (l := []) hA
  obtain rfl := ky_nil hB
  have h1 : sideN ([⟨(kW wSrc).1, p, (kW wSrc).2.1, (kW wSrc).2.2⟩] ++ R) = 1 := rfl
  refine ⟨h1, ?_, fun _ => ⟨p, _, .inl rfl, rfl⟩, fun h => absurd h (by decide)⟩
  unfold sideR
  rw [if_neg (by rw [h1]; decide)]
  rfl
 ·obtain ⟨p, B, rfl, hB⟩ := ky_cons (a := kW wDst) (l := []) hA
  obtain rfl := ky_nil hB
  have h1 : sideN ([⟨(kW wDst).1, p, (kW wDst).2.1, (kW wDst).2.2⟩] ++ R) = 2 := rfl
  refine ⟨h1, ?_, fun _ => ⟨p, _, .inr rfl, rfl⟩, fun h => absurd h (by decide)⟩
  unfold sideR
  rw [if_neg (by rw [h1]; decide)]
  rfl
theorem part_sided {rec : Nat → List Tk → Out} {nest p : Nat} {t : List UInt8} {R : List Tk} (ht : t ∈ [wSrc, wDst, wHost, wNet, wPort, wPortrange]) : partF rec nest (⟨2, p, t, 0⟩ :: R) = sidedV 0 p (⟨2, p, t, 0⟩ :: R) := by
 simp only [List.mem_cons, List.not_mem_nil, or_false] at ht
 rcases ht with rfl | rfl | rfl | rfl | rfl | rfl
 ·rw [spart_word (by decide), if_neg (by decide)]; rfl
 ·rw [spart_word (by decide), if_neg (by decide)]; rfl
 ·rw [spart_word (by decide), if_neg (by decide)]; rfl
 ·rw [spart_word (by decide), if_neg (by decide)]; rfl
 ·rw [spart_word (by decide), if_neg (by decide)]; rfl
 ·rw [spart_word (by decide), if_neg (by decide)]; rfl
theorem isB_w (p : Nat) (x y : List UInt8) (R : List Tk) : isB (⟨2, p, x, 0⟩ :: R) y = (x == y) := rfl
theorem isB_s (p : Nat) (x y : List UInt8) (R : List Tk) : isB (⟨5, p, x, 0⟩ :: R) y = (x == y) := rfl
theorem sided_host {x : Ng} (hf : formG x = true) (hl : x.addr.length = 16) (hk : x.kind = 14) (at' s p q : Nat) (R : List Tk) :
  sidedB 0 at' s (⟨2, p, wHost, 0⟩ :: ⟨(kA x).1, q, (kA x).2.1, (kA x).2.2⟩ :: R) = .ok ([({ ndK 14 with of := x.of.toNat, addr := x.addr, side := s }, at')], R) := by
 obtain ⟨d, h1, h2⟩ := head_text hf hl (.inl hk) q R 14
 unfold sidedB
 rw [isB_w, isB_w, if_neg (by decide), if_neg (by decide), if_pos ⟨rfl, by rw [isB_w]; decide⟩]
 show thenE (addrT 14 (_ :: R)) _ = _
 rw [h1, h2]
 rfl
theorem num_read (p n : Nat) (t : List UInt8) (R : List Tk) : numT (⟨1, p, t, n⟩ :: R) = .ok (n, R) := rfl
theorem must_read (p : Nat) (t : List UInt8) (R : List Tk) : mustV t (⟨5, p, t, 0⟩ :: R) = .ok R := by
 unfold mustV
 rw [isB_s, if_pos (by simp)]
 rfl
theorem sided_net {x : Ng} (hf : formG x = true) (hl : x.addr.length = 16) (hk : x.kind = 15) (at' s p q r u : Nat) (R : List Tk) :
  sidedB 0 at' s (⟨2, p, wNet, 0⟩ :: ⟨(kA x).1, q, (kA x).2.1, (kA x).2.2⟩ :: ⟨5, r, [47], 0⟩ :: ⟨1, u, dec x.bits.toNat, x.bits.toNat⟩ :: R) = .ok ([({ ndK 15 with of := x.of.toNat, addr := x.addr, bits := x.bits.toNat, side := s }, at')], R) := by
 obtain ⟨d, h1, h2⟩ := head_text hf hl (.inr hk) q (⟨5, r, [47], 0⟩ :: ⟨1, u, dec x.bits.toNat, x.bits.toNat⟩ :: R) 15
 unfold sidedB
 rw [isB_w, isB_w, if_neg (by decide), if_neg (by decide), if_neg (by rw [isB_w]; rintro ⟨-, h⟩; revert h; decide), if_pos ⟨rfl, by rw [isB_w]; decide⟩]
 simp only [List.tail_cons, h1, h2, thenE_ok, must_read, num_read]
theorem spsided_port (of at' s p q n : Nat) (R : List Tk) : sidedB of at' s (⟨2, p, wPort, 0⟩ :: ⟨1, q, dec n, n⟩ :: R) = .ok ([({ ndK 16 with of := of, side := s, n := n, m := n }, at')], R) := by
 unfold sidedB
 rw [isB_w, if_pos (by decide)]
 simp only [List.tail_cons, num_read, thenE_ok]
theorem sided_range (of at' s p q r u n m : Nat) (R : List Tk) : sidedB of at' s (⟨2, p, wPortrange, 0⟩ :: ⟨1, q, dec n, n⟩ :: ⟨5, r, [45], 0⟩ :: ⟨1, u, dec m, m⟩ :: R) = .ok ([({ ndK 16 with of := of, side := s, n := n, m := m }, at')], R) := by
 unfold sidedB
 rw [isB_w, isB_w, if_neg (by decide), if_pos (by decide)]
 simp only [List.tail_cons, num_read, thenE_ok, must_read]
theorem leaf_read {x : Ng} (ha : arG x.kind = some 0) (hf : formG x = true) (hr : rangeE x = 0) (hl : x.addr.length = 16) {A R : List Tk} (hA : A.map Tk.ky = leafK x) (hR : StopN R) (rec : Nat → List Tk → Out) (nest : Nat) :
  ∃ d p, partF rec nest (A ++ R) = .ok ([(d, p)], R) ∧ d.g = x := by
 have hk : x.kind = 1 ∨ x.kind = 2 ∨ x.kind = 10 ∨ x.kind = 11 ∨ x.kind = 12 ∨ x.kind = 13 ∨ x.kind = 14 ∨ x.kind = 15 ∨ x.kind = 16 := by
  rcases arG_cases ha with ⟨h1, -⟩ | ⟨h1, -⟩ | ⟨-, h1⟩
  ·cases h1
  ·cases h1
  ·exact h1
 obtain ⟨hu, -, hm⟩ := form_use hf hl
 obtain ⟨g1, g2, g3, g4, g5, g6, -⟩ := form_node hf hr
 rcases hk with hk | hk | hk | hk | hk | hk | hk | hk | hk
 ·have hz := addr_zeros hf hl (by unfold useG; rw [hk]; rfl)
  unfold leafK at hA
  rw [if_pos hk] at hA
  obtain ⟨p, B, rfl, hB⟩ := ky_cons hA
  obtain rfl := ky_nil hB
  refine ⟨_, p, spart_num, ?_⟩
  rw [hu, hz]
  unfold useG
  rw [if_pos (.inl hk), hk]
  rfl
 ·have hz := addr_zeros hf hl (by unfold useG; rw [hk]; rfl)
  unfold leafK at hA
  rw [if_neg (by omega), if_pos hk] at hA
  obtain ⟨p, B, rfl, hB⟩ := ky_cons hA
  obtain rfl := ky_nil hB
  refine ⟨ndK 2, p, ?_, ?_⟩
  ·show partF rec nest (⟨2, p, wLen, 0⟩ :: R) = _
   rw [spart_word (by decide), if_neg (by decide)]
   rfl
  ·rw [hu, hz]
   unfold useG
   rw [hk]
   rfl
 ·have hz := addr_zeros hf hl (by unfold useG; rw [hk]; rfl)
  have hs : x.side = 1 ∨ x.side = 2 := by
   unfold mayG at hm
   rw [hk] at hm
   have := in_le (show inG x.side 1 2 = true from hm)
   omega
  unfold leafK at hA
  rw [if_neg (by omega), if_neg (by omega), if_pos hk] at hA
  obtain ⟨p, B, rfl, hB⟩ := ky_cons hA
  obtain rfl := ky_nil hB
  rcases hs with hs | hs
  ·refine ⟨{ ndK 10 with side := 1 }, p, ?_, ?_⟩
   ·rw [if_pos hs]
    show partF rec nest (⟨2, p, wInbound, 0⟩ :: R) = _
    rw [spart_word (by decide), if_neg (by decide)]
    rfl
   ·rw [hu, hz]
    unfold useG
    rw [hk, hs]
    rfl
  ·refine ⟨{ ndK 10 with side := 2 }, p, ?_, ?_⟩
   ·rw [if_neg (by omega)]
    show partF rec nest (⟨2, p, wOutbound, 0⟩ :: R) = _
    rw [spart_word (by decide), if_neg (by decide)]
    rfl
   ·rw [hu, hz]
    unfold useG
    rw [hk, hs]
    rfl
 ·have hz := addr_zeros hf hl (by unfold useG; rw [hk]; rfl)
  have hof := in_le (show inG x.of 2 13 = true by unfold mayG at hm; rw [hk] at hm; exact hm)
  unfold leafK at hA
  rw [if_neg (by omega), if_neg (by omega), if_neg (by omega), if_pos hk] at hA
  obtain ⟨p, B, rfl, hB⟩ := ky_cons hA
  obtain rfl := ky_nil hB
  refine ⟨{ ndK 11 with of := x.of.toNat }, p, ?_, ?_⟩
  ·show partF rec nest (⟨2, p, nameT x.of, 0⟩ :: R) = _
   rw [spart_name ⟨by omega, by omega⟩]
   unfold nameF
   rw [hR [91] (by simp), hR wProto (by simp), hR wSrc (by simp), hR wDst (by simp), hR wPort (by simp), hR wPortrange (by simp), if_neg (by simp), if_neg (by omega), if_neg (by simp), if_neg (by simp)]
  ·rw [hu, hz]
   unfold useG
   rw [hk]
   show (⟨11, 0, 0, 0, 0, (x.of.toNat : Int), 0, _, 0⟩ : Ng) = ⟨11, 0, 0, 0, 0, x.of, 0, _, 0⟩
   rw [show (x.of.toNat : Int) = x.of by omega]
   rfl
 ·have hz := addr_zeros hf hl (by unfold useG; rw [hk]; rfl)
  unfold leafK at hA
  rw [if_neg (by omega), if_neg (by omega), if_neg (by omega), if_neg (by omega), if_pos hk] at hA
  obtain ⟨p, B, rfl, hB⟩ := ky_cons hA
  obtain ⟨q, C, rfl, hC⟩ := ky_cons hB
  obtain rfl := ky_nil hC
  refine ⟨{ ndK 12 with n := x.n }, p, ?_, ?_⟩
  ·show partF rec nest (⟨2, p, wProto, 0⟩ :: ⟨1, q, dec x.n, x.n⟩ :: R) = _
   rw [spart_word (by decide), if_neg (by decide)]
   rfl
  ·rw [hu, hz]
   unfold useG
   rw [hk]
   rfl
 ·have hz := addr_zeros hf hl (by unfold useG; rw [hk]; rfl)
  have hof := in_le (show inG x.of 2 3 = true by unfold mayG at hm; rw [hk] at hm; exact hm)
  unfold leafK at hA
  rw [if_neg (by omega), if_neg (by omega), if_neg (by omega), if_neg (by omega), if_neg (by omega), if_pos hk] at hA
  obtain ⟨p, B, rfl, hB⟩ := ky_cons hA
  obtain ⟨q, C, rfl, hC⟩ := ky_cons hB
  obtain ⟨r, D, rfl, hD⟩ := ky_cons hC
  obtain rfl := ky_nil hD
  refine ⟨{ ndK 13 with of := x.of.toNat, n := x.n }, p, ?_, ?_⟩
  ·show partF rec nest (⟨2, p, nameT x.of, 0⟩ :: ⟨2, q, wProto, 0⟩ :: ⟨1, r, dec x.n, x.n⟩ :: R) = _
   rw [spart_name ⟨by omega, by omega⟩]
   unfold nameF
   rw [isB_w, isB_w, if_neg (by rintro ⟨h, -⟩; revert h; decide), if_neg (by omega), if_pos ⟨by omega, by decide⟩]
   rfl
  ·rw [hu, hz]
   unfold useG
   rw [hk]
   show (⟨13, 0, x.n, 0, 0, (x.of.toNat : Int), 0, _, 0⟩ : Ng) = ⟨13, 0, x.n, 0, 0, x.of, 0, _, 0⟩
   rw [show (x.of.toNat : Int) = x.of by omega]
   rfl
 ·unfold leafK at hA
  rw [if_neg (by omega), if_neg (by omega), if_neg (by omega), if_neg (by omega), if_neg (by omega), if_neg (by omega), if_pos hk] at hA
  obtain ⟨S, B, rfl, hS, hB⟩ := ky_app hA
  obtain ⟨p, C, rfl, hC⟩ := ky_cons hB
  obtain ⟨q, D, rfl, hD⟩ := ky_cons hC
  obtain rfl := ky_nil hD
  have hE : ∀ at', sidedV 0 at' (S ++ (⟨2, p, wHost, 0⟩ :: ⟨(kA x).1, q, (kA x).2.1, (kA x).2.2⟩ :: R)) = .ok ([({ ndK 14 with of := x.of.toNat, addr := x.addr, side := x.side.toNat }, at')], R) := fun at' => by
   obtain ⟨s1, s2, -, -⟩ := side_read ⟨g1, g2⟩ hS (R := ⟨2, p, wHost, 0⟩ :: ⟨(kA x).1, q, (kA x).2.1, (kA x).2.2⟩ :: R) rfl
   unfold sidedV
   rw [s1, s2]
   exact sided_host hf hl hk _ _ _ _ _
  obtain ⟨-, -, s3, s4⟩ := side_read ⟨g1, g2⟩ hS (R := ⟨2, p, wHost, 0⟩ :: ⟨(kA x).1, q, (kA x).2.1, (kA x).2.2⟩ :: R) rfl
  have hg : ∀ d : Nd, d = { ndK 14 with of := x.of.toNat, addr := x.addr, side := x.side.toNat } → d.g = x := fun d hd => by
   have e2 : useG x = ⟨14, 0, 0, 0, 0, x.of, x.side, x.addr, 0⟩ := by unfold useG; rw [hk]; rfl
   rw [hd, hu, e2]
   show (⟨14, 0, 0, 0, 0, (x.of.toNat : Int), (x.side.toNat : Int), x.addr, 0⟩ : Ng) = _
   rw [show (x.of.toNat : Int) = x.of by omega, show (x.side.toNat : Int) = x.side by omega]
  by_cases h0 : x.side = 0
  ·obtain rfl := s4 h0
   refine ⟨_, p, ?_, hg _ rfl⟩
   show partF rec nest (⟨2, p, wHost, 0⟩ :: _) = _
   rw [part_sided (by simp)]
   exact hE p
  ·obtain ⟨p0, t, ht, rfl⟩ := s3 h0
   refine ⟨_, p0, ?_, hg _ rfl⟩
   show partF rec nest (⟨2, p0, t, 0⟩ :: _) = _
   rw [part_sided (by rcases ht with rfl | rfl <;> simp)]
   exact hE p0
 ·unfold leafK at hA
  rw [if_neg (by omega), if_neg (by omega), if_neg (by omega), if_neg (by omega), if_neg (by omega), if_neg (by omega), if_neg (by omega), if_pos hk] at hA
  obtain ⟨S, B, rfl, hS, hB⟩ := ky_app hA
  obtain ⟨p, C, rfl, hC⟩ := ky_cons hB
  obtain ⟨q, D, rfl, hD⟩ := ky_cons hC
  obtain ⟨r, E, rfl, hE⟩ := ky_cons hD
  obtain ⟨u, F, rfl, hF⟩ := ky_cons hE
  obtain rfl := ky_nil hF
  have hE : ∀ at', sidedV 0 at' (S ++ (⟨2, p, wNet, 0⟩ :: ⟨(kA x).1, q, (kA x).2.1, (kA x).2.2⟩ :: ⟨5, r, [47], 0⟩ :: ⟨1, u, dec x.bits.toNat, x.bits.toNat⟩ :: R)) = .ok ([({ ndK 15 with of := x.of.toNat, addr := x.addr, bits := x.bits.toNat, side := x.side.toNat }, at')], R) := fun at' => by
   obtain ⟨s1, s2, -, -⟩ := side_read ⟨g1, g2⟩ hS (R := ⟨2, p, wNet, 0⟩ :: ⟨(kA x).1, q, (kA x).2.1, (kA x).2.2⟩ :: ⟨5, r, [47], 0⟩ :: ⟨1, u, dec x.bits.toNat, x.bits.toNat⟩ :: R) rfl
   unfold sidedV
   rw [s1, s2]
   exact sided_net hf hl hk _ _ _ _ _ _ _
  obtain ⟨-, -, s3, s4⟩ := side_read ⟨g1, g2⟩ hS (R := ⟨2, p, wNet, 0⟩ :: ⟨(kA x).1, q, (kA x).2.1, (kA x).2.2⟩ :: ⟨5, r, [47], 0⟩ :: ⟨1, u, dec x.bits.toNat, x.bits.toNat⟩ :: R) rfl
  have hg : ∀ d : Nd, d = { ndK 15 with of := x.of.toNat, addr := x.addr, bits := x.bits.toNat, side := x.side.toNat } → d.g = x := fun d hd => by
   have e2 : useG x = ⟨15, 0, 0, 0, 0, x.of, x.side, x.addr, x.bits⟩ := by unfold useG; rw [hk]; rfl
   rw [hd, hu, e2]
   show (⟨15, 0, 0, 0, 0, (x.of.toNat : Int), (x.side.toNat : Int), x.addr, (x.bits.toNat : Int)⟩ : Ng) = _
   rw [show (x.of.toNat : Int) = x.of by omega, show (x.side.toNat : Int) = x.side by omega, show (x.bits.toNat : Int) = x.bits by omega]
  by_cases h0 : x.side = 0
  ·obtain rfl := s4 h0
   refine ⟨_, p, ?_, hg _ rfl⟩
   show partF rec nest (⟨2, p, wNet, 0⟩ :: _) = _
   rw [part_sided (by simp)]
   exact hE p
  ·obtain ⟨p0, t, ht, rfl⟩ := s3 h0
   refine ⟨_, p0, ?_, hg _ rfl⟩
   show partF rec nest (⟨2, p0, t, 0⟩ :: _) = _
   rw [part_sided (by rcases ht with rfl | rfl <;> simp)]
   exact hE p0
 ·have hz := addr_zeros hf hl (by unfold useG; rw [hk]; rfl)
  have hof : x.of = 0 ∨ x.of = 4 ∨ x.of = 5 := by
   unfold mayG at hm
   rw [hk] at hm
   have h1 := (Bool.and_eq_true_iff.1 (show ((x.of == 0 || inG x.of 4 5) && inG x.side 0 2) = true from hm)).1
   rcases Bool.or_eq_true_iff.1 h1 with h2 | h2
   ·exact .inl (by simpa using h2)
   ·have := in_le h2
    omega
  have hg : ∀ d : Nd, d = { ndK 16 with of := x.of.toNat, side := x.side.toNat, n := x.n, m := x.m } → d.g = x := fun d hd => by
   have e2 : useG x = ⟨16, 0, x.n, x.m, 0, x.of, x.side, zeros 16, 0⟩ := by unfold useG; rw [hk]; rfl
   rw [hd, hu, e2, hz]
   show (⟨16, 0, x.n, x.m, 0, (x.of.toNat : Int), (x.side.toNat : Int), _, 0⟩ : Ng) = _
   rw [show (x.of.toNat : Int) = x.of by omega, show (x.side.toNat : Int) = x.side by omega]
   rfl
  unfold leafK at hA
  rw [if_neg (by omega), if_neg (by omega), if_neg (by omega), if_neg (by omega), if_neg (by omega), if_neg (by omega), if_neg (by omega), if_neg (by omega)] at hA
  obtain ⟨AB, C, rfl, hAB, hC⟩ := ky_app hA
  obtain ⟨N, S, rfl, hN, hS⟩ := ky_app hAB
  have hP : ∃ t p B, C ++ R = ⟨2, p, t, 0⟩ :: B ∧ (t = wPort ∨ t = wPortrange) ∧ ∀ of at' s, sidedB of at' s (C ++ R) = .ok ([({ ndK 16 with of := of, side := s, n := x.n, m := x.m }, at')], R) := by
   by_cases hnm : x.n = x.m
   ·rw [if_pos hnm] at hC
    obtain ⟨p, D, rfl, hD⟩ := ky_cons hC
    obtain ⟨q, E, rfl, hE⟩ := ky_cons hD
    obtain rfl := ky_nil hE
    exact ⟨wPort, p, _, rfl, .inl rfl, fun of at' s => by rw [← hnm]; exact spsided_port _ _ _ _ _ _ _⟩
   ·rw [if_neg hnm] at hC
    obtain ⟨p, D, rfl, hD⟩ := ky_cons hC
    obtain ⟨q, E, rfl, hE⟩ := ky_cons hD
    obtain ⟨r, F, rfl, hF⟩ := ky_cons hE
    obtain ⟨u, G, rfl, hG⟩ := ky_cons hF
    obtain rfl := ky_nil hG
    exact ⟨wPortrange, p, _, rfl, .inr rfl, fun of at' s => sided_range _ _ _ _ _ _ _ _ _ _⟩
  obtain ⟨t, pt, B, hCR, ht, hsd⟩ := hP
  have hs0 : sideN (C ++ R) = 0 := by
   rw [hCR]
   unfold sideN
   rw [isB_w, isB_w]
   rcases ht with rfl | rfl <;> decide
  obtain ⟨s1, s2, s3, s4⟩ := side_read ⟨g1, g2⟩ hS hs0
  have hE : ∀ of at', sidedV of at' (S ++ (C ++ R)) = .ok ([({ ndK 16 with of := of, side := x.side.toNat, n := x.n, m := x.m }, at')], R) := fun of at' => by
   unfold sidedV
   rw [s1, s2]
   exact hsd _ _ _
  have hhd : ∃ t' p' B', S ++ (C ++ R) = ⟨2, p', t', 0⟩ :: B' ∧ (t' = wSrc ∨ t' = wDst ∨ t' = wPort ∨ t' = wPortrange) := by
   by_cases h0 : x.side = 0
   ·obtain rfl := s4 h0
    exact ⟨t, pt, B, hCR, .inr (.inr ht)⟩
   ·obtain ⟨p0, t0, ht0, rfl⟩ := s3 h0
    exact ⟨t0, p0, _, rfl, by rcases ht0 with h | h <;> simp [h]⟩
  obtain ⟨t', p', B', hB', ht'⟩ := hhd
  rw [show N ++ S ++ C ++ R = N ++ (S ++ (C ++ R)) by simp]
  rcases hof with h0 | h4
  ·rw [if_pos h0] at hN
   obtain rfl := ky_nil hN
   refine ⟨_, p', ?_, hg _ rfl⟩
   rw [List.nil_append, hB', part_sided (by rcases ht' with rfl | rfl | rfl | rfl <;> simp), ← hB', hE, h0]
   rfl
  ·rw [if_neg (by omega)] at hN
   obtain ⟨p, D, rfl, hD⟩ := ky_cons hN
   obtain rfl := ky_nil hD
   refine ⟨_, p, ?_, hg _ rfl⟩
   show partF rec nest (⟨2, p, nameT x.of, 0⟩ :: (S ++ (C ++ R))) = _
   rw [spart_name ⟨by omega, by omega⟩]
   have hi : ∀ y, isB (S ++ (C ++ R)) y = (t' == y) := fun y => by rw [hB']; rfl
   unfold nameF
   rw [hi, hi, hi, hi, hi, hi, if_neg (by rintro ⟨h, -⟩; rcases ht' with rfl | rfl | rfl | rfl <;> revert h <;> decide), if_neg (by omega), if_neg (by omega), if_pos ⟨by omega, by rcases ht' with rfl | rfl | rfl | rfl <;> decide⟩, hE]
theorem bin_one {x : List UInt8} {j : Nat} (h : ∀ i : Fin 11, i.val ≠ j → (binV i.val x).isNone = true) : ∀ i, i ≠ j → binV i x = none := fun i hi => by
 by_cases h1 : i ≤ 10
 ·exact Option.isNone_iff_eq_none.1 (h ⟨i, by omega⟩ hi)
 ·unfold binV
  rw [if_neg (by omega), if_neg (by omega), if_neg (by omega), if_neg (by omega), if_neg (by omega), if_neg (by omega), if_neg (by omega), if_neg (by omega), if_neg (by omega)]
def StopK (k : Nat) (B : List Tk) : Prop := StopN B ∧ ∀ j, k ≤ j → opT j B = none
theorem StopK.up {k l : Nat} {B : List Tk} (h : StopK k B) (hl : k ≤ l) : StopK l B := ⟨h.1, fun j hj => h.2 j (by omega)⟩
theorem stop_b {k : Nat} {B : List Tk} (h : StopB B) : StopK k B := ⟨h.1, fun j _ => h.2 j⟩
def GoodN (x : Ng) : Prop := formG x = true ∧ rangeE x = 0 ∧ x.addr.length = 16
def Tr.Good (T : Tr) : Prop := T.Wf ∧ ∀ x ∈ T.flat, GoodN x
theorem Tr.Good.one {x : Ng} {p : Tr} (h : (Tr.one x p).Good) : arG x.kind = some 1 ∧ GoodN x ∧ p.Good :=
 ⟨h.1.1, h.2 x (by simp [Tr.flat]), h.1.2, fun y hy => h.2 y (by simp [Tr.flat, hy])⟩
theorem Tr.Good.two {x : Ng} {p q : Tr} (h : (Tr.two x p q).Good) : arG x.kind = some 2 ∧ GoodN x ∧ p.Good ∧ q.Good :=
 ⟨h.1.1, h.2 x (by simp [Tr.flat]), ⟨h.1.2.1, fun y hy => h.2 y (by simp [Tr.flat, hy])⟩, ⟨h.1.2.2, fun y hy => h.2 y (by simp [Tr.flat, hy])⟩⟩
def kyB (a : Ky) (x : List UInt8) : Bool := (a.1 == 5 || a.1 == 2) && a.2.1 == x
def PlainK (a : Ky) : Prop := kyB a wNot = false ∧ kyB a [33] = false ∧ kyB a [45] = false
theorem plain_num (n : Nat) : PlainK (kN n) := ⟨rfl, rfl, rfl⟩
theorem plain_name (k : Int) : PlainK (kW (nameT k)) := by
 have key : ∀ j : Fin 14, kyB (kW (nameT (j.val : Int))) wNot = false ∧ kyB (kW (nameT (j.val : Int))) [33] = false ∧ kyB (kW (nameT (j.val : Int))) [45] = false := by decide
 by_cases h : 0 ≤ k ∧ k ≤ 13
 ·have := key ⟨k.toNat, by omega⟩
  rw [show ((⟨k.toNat, by omega⟩ : Fin 14).val : Int) = k from Int.toNat_of_nonneg h.1] at this
  exact this
 ·have e : nameT k = [] := by
   unfold nameT
   rw [if_neg (by omega), if_neg (by omega), if_neg (by omega), if_neg (by omega), if_neg (by omega), if_neg (by omega), if_neg (by omega), if_neg (by omega), if_neg (by omega), if_neg (by omega), if_neg (by omega), if_neg (by omega), if_neg (by omega)]
  rw [e]
  exact ⟨by decide, by decide, by decide⟩
theorem leaf_head {x : Ng} : ∃ a l, leafK x = a :: l ∧ PlainK a := by
 unfold leafK
 split
 ·exact ⟨_, _, rfl, plain_num _⟩
 split
 ·exact ⟨_, _, rfl, by decide, by decide, by decide⟩
 split
 ·split
  ·exact ⟨_, _, rfl, by decide, by decide, by decide⟩
  ·exact ⟨_, _, rfl, by decide, by decide, by decide⟩
 split
 ·exact ⟨_, _, rfl, plain_name _⟩
 split
 ·exact ⟨_, _, rfl, by decide, by decide, by decide⟩
 split
 ·exact ⟨_, _, rfl, plain_name _⟩
 have hs : ∀ (k : Int) (b : Ky) (l : List Ky), PlainK b → ∃ a l', sideK k ++ b :: l = a :: l' ∧ PlainK a := fun k b l hb => by
  unfold sideK
  split
  ·exact ⟨_, _, rfl, by decide, by decide, by decide⟩
  ·split
   ·exact ⟨_, _, rfl, by decide, by decide, by decide⟩
   ·exact ⟨_, _, rfl, hb⟩
 split
 ·exact hs _ _ _ ⟨by decide, by decide, by decide⟩
 split
 ·exact hs _ _ _ ⟨by decide, by decide, by decide⟩
 split
 ·rw [List.nil_append]
  split
  ·exact hs _ _ _ ⟨by decide, by decide, by decide⟩
  ·exact hs _ _ _ ⟨by decide, by decide, by decide⟩
 ·exact ⟨_, _, rfl, plain_name _⟩
theorem row_two {x : Ng} (h : arG x.kind = some 2) : (x.kind = 8 ∧ rowG x = 1) ∨ (x.kind = 7 ∧ rowG x = 2) ∨ (x.kind = 6 ∧ rowG x = 4) ∨ (x.kind = 4 ∧ 5 ≤ rowG x ∧ rowG x ≤ 10) := by
 have hk : x.kind = 4 ∨ x.kind = 6 ∨ x.kind = 7 ∨ x.kind = 8 := by
  rcases arG_cases h with ⟨h1, -⟩ | ⟨-, h1⟩ | ⟨h1, -⟩
  ·cases h1
  ·exact h1
  ·cases h1
 unfold rowG
 rcases hk with hk | hk | hk | hk
 ·refine .inr (.inr (.inr ⟨hk, ?_⟩))
  rw [if_neg (by omega), if_neg (by omega), if_neg (by omega), if_neg (by omega), if_neg (by omega), if_neg (by omega)]
  repeat' split
  all_goals omega
 ·exact .inr (.inr (.inl ⟨hk, by rw [hk]; rfl⟩))
 ·exact .inr (.inl ⟨hk, by rw [hk]; rfl⟩)
 ·exact .inl ⟨hk, by rw [hk]; rfl⟩
theorem row_one {x : Ng} (h : arG x.kind = some 1) : (x.kind = 3 ∧ rowG x = 12) ∨ (x.kind = 5 ∧ rowG x = 11) ∨ (x.kind = 9 ∧ rowG x = 3) := by
 have hk : x.kind = 3 ∨ x.kind = 5 ∨ x.kind = 9 := by
  rcases arG_cases h with ⟨-, h1⟩ | ⟨h1, -⟩ | ⟨h1, -⟩
  ·exact h1
  ·cases h1
  ·cases h1
 unfold rowG
 rcases hk with hk | hk | hk
 ·exact .inl ⟨hk, by rw [hk]; rfl⟩
 ·exact .inr (.inl ⟨hk, by rw [hk]; rfl⟩)
 ·exact .inr (.inr ⟨hk, by rw [hk]; rfl⟩)
theorem tree_head (full : Bool) : ∀ T : Tr, T.Good → ∃ a l, T.ky full = a :: l ∧ (4 ≤ rowG T.root → kyB a wNot = false ∧ kyB a [33] = false) ∧ (rowG T.root = 12 → PlainK a)
 | .leaf x, _ => by
  obtain ⟨a, l, h1, h2⟩ := leaf_head (x := x)
  exact ⟨a, l, h1, fun _ => ⟨h2.1, h2.2.1⟩, fun _ => h2⟩
 | .one x p, hg => by
  obtain ⟨h1, -, -⟩ := hg.one
  rw [Tr.ky]
  show ∃ a l, _ = a :: l ∧ (4 ≤ rowG x → _) ∧ (rowG x = 12 → _)
  rcases row_one h1 with ⟨hk, hr⟩ | ⟨hk, hr⟩ | ⟨hk, hr⟩
  ·rw [if_pos hk]
   have := plain_name x.of
   exact ⟨_, _, rfl, fun _ => ⟨this.1, this.2.1⟩, fun _ => this⟩
  ·rw [if_neg (by omega), if_neg (by omega)]
   exact ⟨_, _, rfl, fun _ => ⟨by decide, by decide⟩, fun h => by omega⟩
  ·rw [if_neg (by omega), if_pos hk]
   exact ⟨_, _, rfl, fun h => by omega, fun h => by omega⟩
 | .two x p q, hg => by
  obtain ⟨h1, hx, hp, -⟩ := hg.two
  obtain ⟨a, l, e1, e2, -⟩ := tree_head full p hp
  rw [Tr.ky]
  show ∃ a l, _ = a :: l ∧ (4 ≤ rowG x → _) ∧ (rowG x = 12 → _)
  have hr12 : ¬ rowG x = 12 := by rcases row_two h1 with h | h | h | h <;> omega
  cases hw : wantT full (rowG p.root) (if rowG x = 4 then 5 else rowG x) with
  | true => exact ⟨kS [40], _, rfl, fun _ => ⟨by decide, by decide⟩, fun h => absurd h hr12⟩
  | false =>
   refine ⟨a, _, by rw [e1]; rfl, fun h4 => e2 ?_, fun h => absurd h hr12⟩
   unfold wantT at hw
   have := of_decide_eq_false (Bool.or_eq_false_iff.1 hw).2
   split at this <;> omega
theorem climb {g nest : Nat} {ts r : List Tk} {ns : List (Nd × Nat)} {k0 : Nat} (h0 : k0 ≤ 12) (h : rowF g k0 nest ts = .ok (ns, r)) : ∀ d, d < k0 →
  (∀ k, k0 - d ≤ k → k < k0 → (k = 3 → isB ts wNot = false ∧ isB ts [33] = false) ∧ (k = 11 → isB ts [45] = false) ∧ opT k r = none) → rowF (g + d) (k0 - d) nest ts = .ok (ns, r)
 | 0, _, _ => h
 | d + 1, hd, ho => by
  have ih := climb h0 h d (by omega) (fun k h1 h2 => ho k (by omega) h2)
  have e : k0 - d = k0 - (d + 1) + 1 := by omega
  obtain ⟨o1, o2, o3⟩ := ho (k0 - (d + 1)) (Nat.le_refl _) (by omega)
  rw [e] at ih
  rw [← Nat.add_assoc]
  by_cases hk : k0 - (d + 1) = 3
  ·rw [row_succ]
   unfold stepR
   have o3' : ¬ (k0 - (d + 1) = 3 ∧ (isB ts wNot = true ∨ isB ts [33] = true)) := by
    rintro ⟨-, h1 | h1⟩
    ·rw [(o1 hk).1] at h1; cases h1
    ·rw [(o1 hk).2] at h1; cases h1
   rw [if_neg o3', if_neg (by omega), if_pos (.inl hk)]
   exact ih
  ·by_cases hk' : k0 - (d + 1) = 11
   ·rw [row_succ]
    unfold stepR
    rw [if_neg (by omega), if_neg (by rintro ⟨-, h1⟩; rw [o2 hk'] at h1; cases h1), if_pos (.inr hk')]
    exact ih
   ·exact up_op ⟨hk, hk', by omega⟩ o3 ih
theorem climb_to {g nest k0 k : Nat} {ts r : List Tk} {ns : List (Nd × Nat)} (h0 : k0 ≤ 12) (h1 : 1 ≤ k) (h2 : k ≤ k0) (h : rowF g k0 nest ts = .ok (ns, r)) (hs : StopK k r) (hn : k ≤ 3 → 3 < k0 → isB ts wNot = false ∧ isB ts [33] = false) (hm : k ≤ 11 → 11 < k0 → isB ts [45] = false) :
  ∃ F, rowF F k nest ts = .ok (ns, r) := by
 refine ⟨g + (k0 - k), ?_⟩
 have := climb h0 h (k0 - k) (by omega) (fun j j1 j2 => ⟨fun e => hn (by omega) (by omega), fun e => hm (by omega) (by omega), hs.2 j (by omega)⟩)
 rw [show k0 - (k0 - k) = k by omega] at this
 exact this
theorem more_row {f g k nest : Nat} {ts : List Tk} {v : List (Nd × Nat) × List Tk} (hfg : f ≤ g) (h : rowF f k nest ts = .ok v) : rowF g k nest ts = .ok v := by
 rw [row_more hfg (by rw [h]; intro h; cases h)]
 exact h
theorem sign_read {x : Ng} (h : arG x.kind = some 2) (hg : GoodN x) : ∃ a : Ky, signK x = a ∧ ∀ p B, StopN (⟨a.1, p, a.2.1, a.2.2⟩ :: B) ∧ (∃ nd, opT (rowG x).toNat (⟨a.1, p, a.2.1, a.2.2⟩ :: B) = some nd ∧ nd.g = x) ∧ ∀ j, j ≠ (rowG x).toNat → opT j (⟨a.1, p, a.2.1, a.2.2⟩ :: B) = none := by
 obtain ⟨hf, hr, hl⟩ := hg
 obtain ⟨hu, -, hm⟩ := form_use hf hl
 have hk : x.kind = 4 ∨ x.kind = 6 ∨ x.kind = 7 ∨ x.kind = 8 := by
  rcases arG_cases h with ⟨h1, -⟩ | ⟨-, h1⟩ | ⟨h1, -⟩
  ·cases h1
  ·exact h1
  ·cases h1
 have hz : x.addr = zeros 16 := addr_zeros hf hl (by unfold useG; rcases hk with hk | hk | hk | hk <;> rw [hk] <;> rfl)
 have key : ∀ (a : Ky) (r : Nat) (nd : Nd), (a.1 = 5 ∨ a.1 = 2) → (∀ y ∈ [[91], wProto, wSrc, wDst, wPort, wPortrange], kyB a y = false) → binV r a.2.1 = some nd → (∀ i : Fin 11, i.val ≠ r → (binV i.val a.2.1).isNone = true) → signK x = a → (rowG x).toNat = r → nd.g = x →
   ∃ a : Ky, signK x = a ∧ ∀ p B, StopN (⟨a.1, p, a.2.1, a.2.2⟩ :: B) ∧ (∃ nd, opT (rowG x).toNat (⟨a.1, p, a.2.1, a.2.2⟩ :: B) = some nd ∧ nd.g = x) ∧ ∀ j, j ≠ (rowG x).toNat → opT j (⟨a.1, p, a.2.1, a.2.2⟩ :: B) = none := by
  intro a r nd ha hy hb ho hs hrr hnd
  refine ⟨a, hs, fun p B => ⟨fun y hy' => hy y hy', ⟨nd, ?_, hnd⟩, fun j hj => ?_⟩⟩
  ·unfold opT
   rw [hrr]
   exact (if_pos ha).trans hb
  ·unfold opT
   rw [hrr] at hj
   exact (if_pos ha).trans (bin_one ho j hj)
 have hx4 : ∀ o : Nat, x.kind = 4 → x.op = o → ({ ndK 4 with op := o } : Nd).g = x := fun o h1 h2 => by
  rw [hu, hz]
  unfold useG
  rw [if_neg (by omega), if_neg (by omega), if_pos (.inl h1), h1, h2]
  rfl
 have hx6 : ∀ o : Nat, x.kind = 6 → x.op = o → ({ ndK 6 with op := o } : Nd).g = x := fun o h1 h2 => by
  rw [hu, hz]
  unfold useG
  rw [if_neg (by omega), if_neg (by omega), if_pos (.inr h1), h1, h2]
  rfl
 rcases hk with hk | hk | hk | hk
 ·have ho := in_le (show inG x.op 1 10 = true by unfold mayG at hm; rw [hk] at hm; exact hm)
  have : x.op = 1 ∨ x.op = 2 ∨ x.op = 3 ∨ x.op = 4 ∨ x.op = 5 ∨ x.op = 6 ∨ x.op = 7 ∨ x.op = 8 ∨ x.op = 9 ∨ x.op = 10 := by omega
  rcases this with e | e | e | e | e | e | e | e | e | e
  ·exact key (kS [43]) 9 _ (.inl rfl) (by decide) rfl (by decide) (by unfold signK opT13; rw [hk, e]; rfl) (by unfold rowG; rw [hk, e]; rfl) (hx4 1 hk e)
  ·exact key (kS [45]) 9 _ (.inl rfl) (by decide) rfl (by decide) (by unfold signK opT13; rw [hk, e]; rfl) (by unfold rowG; rw [hk, e]; rfl) (hx4 2 hk e)
  ·exact key (kS [42]) 10 _ (.inl rfl) (by decide) rfl (by decide) (by unfold signK opT13; rw [hk, e]; rfl) (by unfold rowG; rw [hk, e]; rfl) (hx4 3 hk e)
  ·exact key (kS [47]) 10 _ (.inl rfl) (by decide) rfl (by decide) (by unfold signK opT13; rw [hk, e]; rfl) (by unfold rowG; rw [hk, e]; rfl) (hx4 4 hk e)
  ·exact key (kS [37]) 10 _ (.inl rfl) (by decide) rfl (by decide) (by unfold signK opT13; rw [hk, e]; rfl) (by unfold rowG; rw [hk, e]; rfl) (hx4 5 hk e)
  ·exact key (kS [38]) 7 _ (.inl rfl) (by decide) rfl (by decide) (by unfold signK opT13; rw [hk, e]; rfl) (by unfold rowG; rw [hk, e]; rfl) (hx4 6 hk e)
  ·exact key (kS [124]) 5 _ (.inl rfl) (by decide) rfl (by decide) (by unfold signK opT13; rw [hk, e]; rfl) (by unfold rowG; rw [hk, e]; rfl) (hx4 7 hk e)
  ·exact key (kS [94]) 6 _ (.inl rfl) (by decide) rfl (by decide) (by unfold signK opT13; rw [hk, e]; rfl) (by unfold rowG; rw [hk, e]; rfl) (hx4 8 hk e)
  ·exact key (kS [60, 60]) 8 _ (.inl rfl) (by decide) rfl (by decide) (by unfold signK opT13; rw [hk, e]; rfl) (by unfold rowG; rw [hk, e]; rfl) (hx4 9 hk e)
  ·exact key (kS [62, 62]) 8 _ (.inl rfl) (by decide) rfl (by decide) (by unfold signK opT13; rw [hk, e]; rfl) (by unfold rowG; rw [hk, e]; rfl) (hx4 10 hk e)
 ·have ho := in_le (show inG x.op 1 6 = true by unfold mayG at hm; rw [hk] at hm; exact hm)
  have : x.op = 1 ∨ x.op = 2 ∨ x.op = 3 ∨ x.op = 4 ∨ x.op = 5 ∨ x.op = 6 := by omega
  rcases this with e | e | e | e | e | e
  ·exact key (kS [61]) 4 _ (.inl rfl) (by decide) rfl (by decide) (by unfold signK relT; rw [hk, e]; rfl) (by unfold rowG; rw [hk]; rfl) (hx6 1 hk e)
  ·exact key (kS [33, 61]) 4 _ (.inl rfl) (by decide) rfl (by decide) (by unfold signK relT; rw [hk, e]; rfl) (by unfold rowG; rw [hk]; rfl) (hx6 2 hk e)
  ·exact key (kS [60]) 4 _ (.inl rfl) (by decide) rfl (by decide) (by unfold signK relT; rw [hk, e]; rfl) (by unfold rowG; rw [hk]; rfl) (hx6 3 hk e)
  ·exact key (kS [60, 61]) 4 _ (.inl rfl) (by decide) rfl (by decide) (by unfold signK relT; rw [hk, e]; rfl) (by unfold rowG; rw [hk]; rfl) (hx6 4 hk e)
  ·exact key (kS [62]) 4 _ (.inl rfl) (by decide) rfl (by decide) (by unfold signK relT; rw [hk, e]; rfl) (by unfold rowG; rw [hk]; rfl) (hx6 5 hk e)
  ·exact key (kS [62, 61]) 4 _ (.inl rfl) (by decide) rfl (by decide) (by unfold signK relT; rw [hk, e]; rfl) (by unfold rowG; rw [hk]; rfl) (hx6 6 hk e)
 ·refine key (kW wAnd) 2 (ndK 7) (.inr rfl) (by decide) rfl (by decide) (by unfold signK; rw [hk]; rfl) (by unfold rowG; rw [hk]; rfl) ?_
  rw [hu, hz]
  unfold useG
  rw [hk]
  rfl
 ·refine key (kW wOr) 1 (ndK 8) (.inr rfl) (by decide) rfl (by decide) (by unfold signK; rw [hk]; rfl) (by unfold rowG; rw [hk]; rfl) ?_
  rw [hu, hz]
  unfold useG
  rw [hk]
  rfl
def ReadM (full : Bool) (T : Tr) : Prop := ∀ (k nest : Nat) (A R : List Tk), 1 ≤ k → (k : Int) ≤ rowG T.root → nest + (T.txt full).2 ≤ 200 → A.map Tk.ky = T.ky full → StopK k R →
 ∃ F ns, rowF F k nest (A ++ R) = .ok (ns, R) ∧ ns.map (·.1.g) = T.flat
def ReadL (r nest : Nat) (A R : List Tk) (t : List Ng) : Prop :=
 ∃ F f ns, R.length ≤ f ∧ (∀ G, F ≤ G → rowF (G + 1) r nest (A ++ R) = loopG (rowF G (r + 1) nest) r f ns R) ∧ ns.map (·.1.g) = t
theorem row_ge {x : Ng} : 1 ≤ rowG x := by
 unfold rowG
 repeat' split
 all_goals decide
theorem want_le {full : Bool} {row least : Int} (h : wantT full row least = false) : least ≤ row := by
 unfold wantT at h
 have := of_decide_eq_false (Bool.or_eq_false_iff.1 h).2
 omega
theorem stop_brk {t : Tk} (hx : t.text = [93] ∨ t.text = [58]) (ht : t.kind = 5) (r : List Tk) : StopB (t :: r) := by
 refine ⟨fun x hm => ?_, fun k => ?_⟩
 ·show ((t.kind == 5 || t.kind == 2) && t.text == x) = false
  simp only [List.mem_cons, List.not_mem_nil, or_false] at hm
  rcases hx with hx | hx <;> rw [hx] <;> rcases hm with rfl | rfl | rfl | rfl | rfl | rfl <;> simp [wProto, wSrc, wDst, wPort, wPortrange]
 ·unfold opT
  show (if t.kind = 5 ∨ t.kind = 2 then binV k t.text else none) = none
  rw [if_pos (.inl ht)]
  unfold binV relV
  rcases hx with hx | hx <;> rw [hx] <;> simp [wOr, wAnd]
theorem row_le {x : Ng} : rowG x ≤ 12 := by
 unfold rowG
 repeat' split
 all_goals decide
theorem put_read {full : Bool} {T : Tr} (hg : T.Good) (hM : ReadM full T) {want : Bool} {k nest : Nat} {A R : List Tk} (h1 : 1 ≤ k) (h12 : k ≤ 12) (hk : want = false → (k : Int) ≤ rowG T.root) (hd : nest + (putT want (T.txt full)).2 ≤ 200)
  (hA : A.map Tk.ky = putK want (T.ky full)) (hs : StopK k R) : ∃ F ns, rowF F k nest (A ++ R) = .ok (ns, R) ∧ ns.map (·.1.g) = T.flat := by
 cases want with
 | false => exact hM k nest A R h1 (hk rfl) hd hA hs
 | true =>
  obtain ⟨p, B, rfl, hB⟩ := ky_cons (a := kS [40]) (l := T.ky full ++ [kS [41]]) hA
  obtain ⟨C, D, rfl, hC, hD⟩ := ky_app hB
  obtain ⟨q, E, rfl, hE⟩ := ky_cons (a := kS [41]) (l := []) hD
  obtain rfl := ky_nil hE
  have hd' : nest + ((T.txt full).2 + 1) ≤ 200 := hd
  obtain ⟨t, l, e1, -, -⟩ := tree_head full T hg
  have hb := stop_paren (t := ⟨5, q, [41], 0⟩) rfl rfl R
  have hr1 : (1 : Int) ≤ rowG T.root := row_ge
  obtain ⟨F, ns, f1, f2⟩ := hM 1 (nest + 1) C (⟨5, q, [41], 0⟩ :: R) (Nat.le_refl _) hr1 (by omega) hC (stop_b hb)
  have lp : lpB ⟨5, p, [40], 0⟩ := ⟨rfl, rfl⟩
  have h3 : rowF (F + 1) 12 nest (⟨5, p, [40], 0⟩ :: (C ++ (⟨5, q, [41], 0⟩ :: R))) = .ok (ns, R) := by
   rw [row_part, lp_part lp]
   unfold opnV
   rw [if_neg (by omega), f1, thenE_ok]
   show thenE (mustV [41] (⟨5, q, [41], 0⟩ :: R)) _ = _
   rw [must_read, thenE_ok]
  obtain ⟨F2, h4⟩ := climb_to (Nat.le_refl 12) h1 h12 h3 hs (fun _ _ => ⟨by rw [lp_is lp]; rfl, by rw [lp_is lp]; rfl⟩) (fun _ _ => by rw [lp_is lp]; rfl)
  refine ⟨F2, ns, ?_, f2⟩
  rw [show ⟨(kS [40]).1, p, (kS [40]).2.1, (kS [40]).2.2⟩ :: (C ++ [⟨(kS [41]).1, q, (kS [41]).2.1, (kS [41]).2.2⟩]) ++ R = (⟨5, p, [40], 0⟩ : Tk) :: (C ++ (⟨5, q, [41], 0⟩ :: R)) by simp [kS]]
  exact h4
theorem read_first {F r nest : Nat} {A R : List Tk} {ns : List (Nd × Nat)} {t : List Ng} (hr : r ≠ 3 ∧ r ≠ 11 ∧ r ≠ 12) (h : rowF F (r + 1) nest (A ++ R) = .ok (ns, R)) (hn : ns.map (·.1.g) = t) : ReadL r nest A R t := by
 refine ⟨F, R.length, ns, Nat.le_refl _, fun G hG => ?_, hn⟩
 rw [row_succ]
 unfold stepR
 rw [if_neg (by omega), if_neg (by omega), if_neg (by omega), if_neg (by omega), more_row hG h, thenE_ok]
theorem spread_more {F2 r nest pos : Nat} {a : Ky} {Ap Aq R : List Tk} {nsq : List (Nd × Nat)} {nd : Nd} {x : Ng} {tp tq : List Ng} (hr4 : r ≠ 4) (hop : opT r (⟨a.1, pos, a.2.1, a.2.2⟩ :: (Aq ++ R)) = some nd) (hx : nd.g = x)
  (hp : ReadL r nest Ap (⟨a.1, pos, a.2.1, a.2.2⟩ :: (Aq ++ R)) tp) (hq : rowF F2 (r + 1) nest (Aq ++ R) = .ok (nsq, R)) (hn : nsq.map (·.1.g) = tq) : ReadL r nest (Ap ++ ⟨a.1, pos, a.2.1, a.2.2⟩ :: Aq) R (tp ++ tq ++ [x]) := by
 obtain ⟨F, f, ns, hf, h1, h2⟩ := hp
 obtain ⟨g, rfl⟩ : ∃ g, f = g + 1 := ⟨f - 1, by simp only [List.length_cons] at hf; omega⟩
 refine ⟨max F F2, g, ns ++ nsq ++ [(nd, pos)], ?_, fun G hG => ?_, ?_⟩
 ·simp only [List.length_cons, List.length_append] at hf
  omega
 ·rw [List.append_assoc, List.cons_append, h1 G (by omega)]
  show (match opT r _ with | none => _ | some nd => _) = _
  rw [hop]
  show thenE (rowF G (r + 1) nest (Aq ++ R)) _ = _
  rw [more_row (show F2 ≤ G by omega) hq, thenE_ok, if_neg hr4]
  rfl
 ·simp only [List.map_append, List.map_cons, List.map_nil, h2, hn, hx]
theorem sploop_none {rec : List Tk → Out} {k : Nat} {R : List Tk} (h : opT k R = none) (f : Nat) (ns : List (Nd × Nat)) : loopG rec k f ns R = .ok (ns, R) := by
 cases f with
 | zero => rfl
 | succ n => unfold loopG; rw [h]
theorem tree_read (full : Bool) : ∀ T : Tr, T.Good → ReadM full T ∧ ∀ (r nest : Nat) (A R : List Tk), r ≠ 3 ∧ r ≠ 4 ∧ r ≠ 11 ∧ r ≠ 12 → 1 ≤ r → (r : Int) ≤ rowG T.root → nest + (T.txt full).2 ≤ 200 → A.map Tk.ky = T.ky full → StopK (r + 1) R → ReadL r nest A R T.flat := by
 intro T
 induction T with
 | leaf x =>
  intro hg
  have ha : arG x.kind = some 0 := hg.1
  obtain ⟨hf, hr, hl⟩ := hg.2 x (by simp [Tr.flat])
  have hM : ReadM full (.leaf x) := fun k nest A R h1 hk _ hA hs => by
   obtain ⟨d, p, e1, e2⟩ := leaf_read ha hf hr hl hA hs.1 (rowF 0 1) nest
   have h12 : (k : Int) ≤ 12 := by have := row_le (x := x); exact Int.le_trans hk this
   obtain ⟨a, l, i1, i2⟩ := leaf_head (x := x)
   have hh : ∀ y, isB (A ++ R) y = kyB a y := fun y => by
    obtain ⟨p, B, rfl, -⟩ := ky_cons (hA.trans i1)
    rfl
   obtain ⟨F, h3⟩ := climb_to (k0 := 12) (Nat.le_refl 12) h1 (by omega) (row_part.trans e1) hs (fun _ _ => ⟨(hh _).trans i2.1, (hh _).trans i2.2.1⟩) (fun _ _ => (hh _).trans i2.2.2)
   exact ⟨F, _, h3, by show [d.g] = _; rw [e2]; rfl⟩
  refine ⟨hM, fun r nest A R hr3 h1 hk hd hA hs => ?_⟩
  have hr12 : r + 1 ≤ 12 := by have := row_le (x := x); have h : (r : Int) ≤ rowG x := hk; omega
  obtain ⟨F, ns, e1, e2⟩ := hM (r + 1) nest A R (by omega) (by show _ ≤ rowG x; rw [row_leaf ha]; omega) hd hA hs
  exact read_first ⟨hr3.1, hr3.2.2⟩ e1 e2
 | one x p ih =>
  intro hg
  obtain ⟨h1, hx, hp⟩ := hg.one
  obtain ⟨hf, hrg, hl⟩ := hx
  obtain ⟨hM, -⟩ := ih hp
  obtain ⟨hu, -, hm⟩ := form_use hf hl
  have hz : x.addr = zeros 16 := addr_zeros hf hl (by unfold useG; rcases row_one h1 with ⟨hk, -⟩ | ⟨hk, -⟩ | ⟨hk, -⟩ <;> rw [hk] <;> rfl)
  have hM2 : ReadM full (.one x p) := fun k nest A R k1 hk hd hA hs => by
   have hk' : (k : Int) ≤ rowG x := hk
   obtain ⟨b, l, i1, i2, i3⟩ := tree_head full (.one x p) hg
   have hh : ∀ y, isB (A ++ R) y = kyB b y := fun y => by
    obtain ⟨p, B, rfl, -⟩ := ky_cons (hA.trans i1)
    rfl
   rcases row_one h1 with ⟨hk3, hr⟩ | ⟨hk5, hr⟩ | ⟨hk9, hr⟩
   ·have hof := in_le (show inG x.of 1 12 = true by unfold mayG at hm; rw [hk3] at hm; exact hm)
    have hsz := (form_node hf hrg).2.2.2.2.2.2.2.1 hk3
    rw [Tr.ky, if_pos hk3] at hA
    rw [Tr.txt, if_pos hk3] at hd
    have hd' : nest + ((p.txt full).2 + 1) ≤ 200 := hd
    obtain ⟨pn, B, rfl, hB⟩ := ky_cons hA
    obtain ⟨pb, C, rfl, hC⟩ := ky_cons hB
    obtain ⟨D, E, rfl, hD, hE⟩ := ky_app hC
    obtain ⟨S, Z, rfl, hS, hZ⟩ := ky_app hE
    obtain ⟨pz, Y, rfl, hY⟩ := ky_cons hZ
    obtain rfl := ky_nil hY
    have hsize : StopB (S ++ (⟨5, pz, [93], 0⟩ :: R)) ∧ sizeF (S ++ (⟨5, pz, [93], 0⟩ :: R)) = .ok (x.size.toNat, R) := by
     unfold sizeK at hS
     by_cases hs1 : x.size = 1
     ·rw [if_pos hs1] at hS
      obtain rfl := ky_nil hS
      refine ⟨stop_brk (.inl rfl) rfl R, ?_⟩
      unfold sizeF
      rw [List.nil_append, isB_s, if_neg (by decide), must_read, thenE_ok, hs1]
      rfl
     ·rw [if_neg hs1] at hS
      obtain ⟨u, U, rfl, hU⟩ := ky_cons hS
      obtain ⟨v, V, rfl, hV⟩ := ky_cons hU
      obtain rfl := ky_nil hV
      refine ⟨stop_brk (.inr rfl) rfl _, ?_⟩
      unfold sizeF
      show (if isB (⟨5, u, [58], 0⟩ :: ⟨1, v, dec x.size.toNat, x.size.toNat⟩ :: ⟨5, pz, [93], 0⟩ :: R) [58] = true then _ else _) = _
      rw [isB_s, if_pos (by decide)]
      show thenE (numT (⟨1, v, dec x.size.toNat, x.size.toNat⟩ :: ⟨5, pz, [93], 0⟩ :: R)) _ = _
      rw [num_read, thenE_ok]
      show thenE (mustV [93] (⟨5, pz, [93], 0⟩ :: R)) _ = _
      rw [must_read, thenE_ok]
    have hr1 : (1 : Int) ≤ rowG p.root := row_ge
    obtain ⟨F, ns, e1, e2⟩ := hM 1 (nest + 1) D (S ++ (⟨5, pz, [93], 0⟩ :: R)) (Nat.le_refl _) (by omega) (by omega) hD (stop_b hsize.1)
    have h3 : rowF (F + 1) 12 nest (⟨2, pn, nameT x.of, 0⟩ :: ⟨5, pb, [91], 0⟩ :: (D ++ (S ++ (⟨5, pz, [93], 0⟩ :: R)))) = .ok (ns ++ [({ ndK 3 with of := x.of.toNat, size := x.size.toNat }, pn)], R) := by
     rw [row_part, spart_name ⟨by omega, by omega⟩]
     unfold nameF
     rw [isB_s, if_pos ⟨by decide, by omega⟩]
     unfold opnV
     rw [if_neg (by omega)]
     show thenE (rowF F 1 (nest + 1) (D ++ (S ++ (⟨5, pz, [93], 0⟩ :: R)))) _ = _
     rw [e1, thenE_ok]
     show thenE (sizeF (S ++ (⟨5, pz, [93], 0⟩ :: R))) _ = _
     rw [hsize.2, thenE_ok]
    have hR : (⟨(kW (nameT x.of)).1, pn, (kW (nameT x.of)).2.1, (kW (nameT x.of)).2.2⟩ : Tk) :: ⟨(kS [91]).1, pb, (kS [91]).2.1, (kS [91]).2.2⟩ :: (D ++ (S ++ [⟨(kS [93]).1, pz, (kS [93]).2.1, (kS [93]).2.2⟩])) ++ R = ⟨2, pn, nameT x.of, 0⟩ :: ⟨5, pb, [91], 0⟩ :: (D ++ (S ++ (⟨5, pz, [93], 0⟩ :: R))) := by simp [kW, kS]
    rw [hR] at hh ⊢
    have i3 := i3 (show rowG x = 12 from hr)
    obtain ⟨G, h4⟩ := climb_to (Nat.le_refl 12) k1 (by omega) h3 hs (fun _ _ => ⟨(hh _).trans i3.1, (hh _).trans i3.2.1⟩) (fun _ _ => (hh _).trans i3.2.2)
    refine ⟨G, _, h4, ?_⟩
    have hn : ({ ndK 3 with of := x.of.toNat, size := x.size.toNat } : Nd).g = x := by
     rw [hu, hz]
     unfold useG
     rw [if_neg (by omega), if_pos hk3, hk3]
     show (⟨3, 0, 0, 0, (x.size.toNat : Int), (x.of.toNat : Int), 0, _, 0⟩ : Ng) = _
     rw [show (x.size.toNat : Int) = x.size by omega, show (x.of.toNat : Int) = x.of by omega]
     rfl
    simp only [List.map_append, List.map_cons, List.map_nil, e2, hn]
    rfl
   ·rw [Tr.ky, if_neg (by omega), if_neg (by omega)] at hA
    rw [Tr.txt, if_neg (by omega), if_neg (by omega), hr] at hd
    rw [hr] at hA
    have hd' : nest + ((putT (wantT full (rowG p.root) 11) (p.txt full)).2 + 1) ≤ 200 := hd
    obtain ⟨pn, B, rfl, hB⟩ := ky_cons hA
    obtain ⟨F, ns, e1, e2⟩ := put_read hp hM (want := wantT full (rowG p.root) 11) (k := 11) (nest := nest + 1) (R := R) (by omega) (by omega) (fun hw => by have := want_le hw; omega) (by omega) hB (hs.up (by omega))
    have h3 : rowF (F + 1) 11 nest (⟨5, pn, [45], 0⟩ :: (B ++ R)) = .ok (ns ++ [(ndK 5, pn)], R) := by
     rw [row_succ]
     unfold stepR
     rw [if_neg (by omega), isB_s, if_pos ⟨rfl, by decide⟩]
     unfold opnV
     rw [if_neg (by omega)]
     show thenE (rowF F 11 (nest + 1) (B ++ R)) _ = _
     rw [e1, thenE_ok]
     rfl
    have h4' : 4 ≤ rowG x := by omega
    have i2 := i2 h4'
    obtain ⟨G, h4⟩ := climb_to (by omega) k1 (by omega) h3 hs (fun _ _ => ⟨(hh _).trans i2.1, (hh _).trans i2.2⟩) (fun _ h => absurd h (by omega))
    refine ⟨G, _, h4, ?_⟩
    have hn : (ndK 5).g = x := by
     rw [hu, hz]
     unfold useG
     rw [hk5]
     rfl
    simp only [List.map_append, List.map_cons, List.map_nil, e2, hn]
    rfl
   ·rw [Tr.ky, if_neg (by omega), if_pos hk9] at hA
    rw [Tr.txt, if_neg (by omega), if_pos hk9, hr] at hd
    rw [hr] at hA
    have hd' : nest + ((putT (wantT full (rowG p.root) 3) (p.txt full)).2 + 1) ≤ 200 := hd
    obtain ⟨pn, B, rfl, hB⟩ := ky_cons hA
    obtain ⟨F, ns, e1, e2⟩ := put_read hp hM (want := wantT full (rowG p.root) 3) (k := 3) (nest := nest + 1) (R := R) (by omega) (by omega) (fun hw => by have := want_le hw; omega) (by omega) hB (hs.up (by omega))
    have h3 : rowF (F + 1) 3 nest (⟨2, pn, wNot, 0⟩ :: (B ++ R)) = .ok (ns ++ [(ndK 9, pn)], R) := by
     rw [row_succ]
     unfold stepR
     rw [isB_w, if_pos ⟨rfl, .inl (by decide)⟩]
     unfold opnV
     rw [if_neg (by omega)]
     show thenE (rowF F 3 (nest + 1) (B ++ R)) _ = _
     rw [e1, thenE_ok]
     rfl
    obtain ⟨G, h4⟩ := climb_to (by omega) k1 (by omega) h3 hs (fun _ h => absurd h (by omega)) (fun _ h => absurd h (by omega))
    refine ⟨G, _, h4, ?_⟩
    have hn : (ndK 9).g = x := by
     rw [hu, hz]
     unfold useG
     rw [hk9]
     rfl
    simp only [List.map_append, List.map_cons, List.map_nil, e2, hn]
    rfl
  refine ⟨hM2, fun r nest A R hr3 k1 hk hd hA hs => ?_⟩
  have hk' : (r : Int) ≤ rowG x := hk
  obtain ⟨F, ns, e1, e2⟩ := hM2 (r + 1) nest A R (by omega) (by show _ ≤ rowG x; rcases row_one h1 with h | h | h <;> omega) hd hA hs
  exact read_first ⟨hr3.1, hr3.2.2⟩ e1 e2
 | two x p q ihp ihq =>
  intro hg
  obtain ⟨h1, hx, hp, hq⟩ := hg.two
  obtain ⟨hMp, hLp⟩ := ihp hp
  obtain ⟨hMq, -⟩ := ihq hq
  obtain ⟨a, hsa, hsg⟩ := sign_read h1 hx
  obtain ⟨rn, hrn⟩ : ∃ rn : Nat, rowG x = rn := ⟨(rowG x).toNat, by have := row_ge (x := x); omega⟩
  rw [hrn] at hsg
  simp only [Int.toNat_natCast] at hsg
  have hrx : rn ≤ 10 ∧ rn ≠ 3 ∧ 1 ≤ rn := by rcases row_two h1 with h | h | h | h <;> omega
  have hroot : rowG (Tr.two x p q).root = (rn : Int) := hrn
  have hown : ∀ (nest : Nat) (A R : List Tk), rn ≠ 4 → nest + ((Tr.two x p q).txt full).2 ≤ 200 → A.map Tk.ky = (Tr.two x p q).ky full → StopK (rn + 1) R → ReadL rn nest A R (Tr.two x p q).flat := fun nest A R h4 hd hA hs => by
   rw [Tr.ky, hrn, if_neg (by omega), hsa] at hA
   rw [Tr.txt, hrn, if_neg (by omega)] at hd
   have hd' : nest + max (putT (wantT full (rowG p.root) rn) (p.txt full)).2 (putT (wantT full (rowG q.root) (rn + 1)) (q.txt full)).2 ≤ 200 := hd
   obtain ⟨Ap, B, rfl, hAp, hB⟩ := ky_app hA
   obtain ⟨pos, Aq, rfl, hAq⟩ := ky_cons hB
   obtain ⟨F2, nsq, q1, q2⟩ := put_read hq hMq (k := rn + 1) (nest := nest) (R := R) (by omega) (by omega) (fun hw => by have := want_le hw; omega) (by omega) hAq hs
   obtain ⟨g1, ⟨nd, g2, g3⟩, g4⟩ := hsg pos (Aq ++ R)
   have hst : StopK (rn + 1) (⟨a.1, pos, a.2.1, a.2.2⟩ :: (Aq ++ R)) := ⟨g1, fun j hj => g4 j (by omega)⟩
   have hpL : ReadL rn nest Ap (⟨a.1, pos, a.2.1, a.2.2⟩ :: (Aq ++ R)) p.flat := by
    cases hw : wantT full (rowG p.root) rn with
    | false =>
     rw [hw] at hAp hd'
     exact hLp rn nest Ap _ ⟨hrx.2.1, h4, by omega, by omega⟩ hrx.2.2 (want_le hw) (by have : (putT false (p.txt full)).2 = (p.txt full).2 := rfl; omega) hAp hst
    | true =>
     rw [hw] at hAp hd'
     obtain ⟨F, ns, p1, p2⟩ := put_read hp hMp (want := true) (k := rn + 1) (nest := nest) (by omega) (by omega) (fun h => by cases h) (by omega) hAp hst
     exact read_first ⟨hrx.2.1, by omega, by omega⟩ p1 p2
   exact spread_more h4 g2 g3 hpL q1 q2
  have hM2 : ReadM full (.two x p q) := fun k nest A R k1 hk hd hA hs => by
   rw [hroot] at hk
   have hk' : k ≤ rn := by omega
   obtain ⟨b, l, i1, i2, -⟩ := tree_head full (.two x p q) hg
   have hh : ∀ y, isB (A ++ R) y = kyB b y := fun y => by
    obtain ⟨p, B, rfl, -⟩ := ky_cons (hA.trans i1)
    rfl
   have h3 : ∃ F ns, rowF F rn nest (A ++ R) = .ok (ns, R) ∧ ns.map (·.1.g) = (Tr.two x p q).flat := by
    by_cases h4 : rn = 4
    ·rw [Tr.ky, hrn, if_pos (by omega), hsa] at hA
     rw [Tr.txt, hrn, if_pos (by omega)] at hd
     have hd' : nest + max (putT (wantT full (rowG p.root) 5) (p.txt full)).2 (putT (wantT full (rowG q.root) (rn + 1)) (q.txt full)).2 ≤ 200 := hd
     obtain ⟨Ap, B, rfl, hAp, hB⟩ := ky_app hA
     obtain ⟨pos, Aq, rfl, hAq⟩ := ky_cons hB
     obtain ⟨F2, nsq, q1, q2⟩ := put_read hq hMq (k := 5) (nest := nest) (R := R) (by omega) (by omega) (fun hw => by have := want_le hw; omega) (by omega) hAq (hs.up (by omega))
     obtain ⟨g1, ⟨nd, g2, g3⟩, g4⟩ := hsg pos (Aq ++ R)
     have hst : StopK 5 (⟨a.1, pos, a.2.1, a.2.2⟩ :: (Aq ++ R)) := ⟨g1, fun j hj => g4 j (by omega)⟩
     obtain ⟨F1, nsp, p1, p2⟩ := put_read hp hMp (want := wantT full (rowG p.root) 5) (k := 5) (nest := nest) (by omega) (by omega) (fun hw => by have := want_le hw; omega) (by omega) hAp hst
     refine ⟨max F1 F2 + 1, nsp ++ nsq ++ [(nd, pos)], ?_, ?_⟩
     ·rw [h4] at g2
      rw [h4, row_succ]
      unfold stepR
      rw [if_neg (by omega), if_neg (by omega), if_neg (by omega), if_neg (by omega), List.append_assoc, List.cons_append, more_row (Nat.le_max_left F1 F2) p1, thenE_ok]
      show loopG _ 4 ((Aq ++ R).length + 1) nsp _ = _
      unfold loopG
      rw [g2]
      show thenE (rowF (max F1 F2) 5 nest (Aq ++ R)) _ = _
      rw [more_row (Nat.le_max_right F1 F2) q1, thenE_ok, if_pos rfl]
      rfl
     ·simp only [List.map_append, List.map_cons, List.map_nil, p2, q2, g3]
      rfl
    ·obtain ⟨F, f, ns, -, e1, e2⟩ := hown nest A R h4 hd hA (hs.up (by omega))
     exact ⟨F + 1, ns, (e1 F (Nat.le_refl _)).trans (sploop_none (hs.2 rn (by omega)) _ _), e2⟩
   obtain ⟨F, ns, e1, e2⟩ := h3
   obtain ⟨G, h5⟩ := climb_to (by omega) k1 hk' e1 hs (fun _ h => by
    have h4' : 4 ≤ rowG x := by omega
    have i2 := i2 h4'
    exact ⟨(hh _).trans i2.1, (hh _).trans i2.2⟩) (fun _ h => absurd h (by omega))
   exact ⟨G, ns, h5, e2⟩
  refine ⟨hM2, fun r nest A R hr3 k1 hk hd hA hs => ?_⟩
  rw [hroot] at hk
  by_cases hr : r = rn
  ·rw [hr] at hs ⊢
   exact hown nest A R (by omega) hd hA hs
  ·obtain ⟨F, ns, e1, e2⟩ := hM2 (r + 1) nest A R (by omega) (by rw [hroot]; omega) hd hA hs
   exact read_first ⟨hr3.1, hr3.2.2⟩ e1 e2

end Go.Proofs.YtklipelnjgpnjaaGreatDoor
