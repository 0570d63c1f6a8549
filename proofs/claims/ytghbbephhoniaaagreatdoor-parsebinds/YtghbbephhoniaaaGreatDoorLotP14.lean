import Derived.Test.YtghbbephhoniaaaGreatDoorLotP13
import Derived.Test.YtghbbephhoniaaaGreatDoorLotP11
namespace Go.Proofs.YtghbbephhoniaaaGreatDoor
open Go.RowKit
set_option maxRecDepth 100000
theorem lexF_fuel : ∀ (k k' p : Nat) (s : List UInt8), s.length ≤ k → s.length ≤ k' → lexF k p s = lexF k' p s
 | 0, k', p, s, h, h' => by
  have : s = [] := List.eq_nil_of_length_eq_zero (by omega)
  subst this
  cases k' <;> rfl
 | k + 1, 0, p, s, h, h' => by
  have : s = [] := List.eq_nil_of_length_eq_zero (by omega)
  subst this
  rfl
 | k + 1, k' + 1, p, [], _, _ => rfl
 | k + 1, k' + 1, p, c :: r, h, h' => by
  simp only [List.length_cons] at h h'
  rw [lexF, lexF]
  split
  ·exact lexF_fuel k k' (p + 1) r (by omega) (by omega)
  ·split
   ·rfl
   ·rename_i q t n ht
    have hl := List.length_pos_iff.2 (tok_ok ht).1
    rw [lexF_fuel k k' (p + t.length) ((c :: r).drop t.length) (by rw [List.length_drop, List.length_cons]; omega) (by rw [List.length_drop, List.length_cons]; omega)]
theorem lexR_nil (p : Nat) : lexR p [] = .ok [⟨0, p, [], 0⟩] := rfl
theorem lexR_blank (p : Nat) {c : UInt8} (r : List UInt8) (h : blankB c = true) : lexR p (c :: r) = lexR (p + 1) r := by
 unfold lexR
 rw [List.length_cons, lexF, if_pos h]
theorem lexR_err (p : Nat) {c : UInt8} {r : List UInt8} {e : Int} (h : blankB c = false) (ht : tokV (c :: r) = .error e) : lexR p (c :: r) = .error (p, e) := by
 unfold lexR
 rw [List.length_cons, lexF, if_neg (by rw [h]; simp), ht]
theorem lexR_tok (p : Nat) {c : UInt8} {r : List UInt8} {q n : Nat} {t : List UInt8} (h : blankB c = false) (ht : tokV (c :: r) = .ok (q, t, n)) :
  lexR p (c :: r) = match lexR (p + t.length) ((c :: r).drop t.length) with
   | .error e => .error e
   | .ok ts => .ok (⟨q, p, t, n⟩ :: ts) := by
 have hl := List.length_pos_iff.2 (tok_ok ht).1
 unfold lexR
 rw [List.length_cons, lexF, if_neg (by rw [h]; simp), ht]
 simp only
 rw [lexF_fuel r.length ((c :: r).drop t.length).length _ _ (by rw [List.length_drop, List.length_cons]; omega) (Nat.le_refl _)]
 cases lexF ((c :: r).drop t.length).length (p + t.length) ((c :: r).drop t.length) <;> rfl
theorem lexR_skip (p : Nat) : ∀ (bs r : List UInt8), (∀ b ∈ bs, blankB b = true) → lexR p (bs ++ r) = lexR (p + bs.length) r := by
 intro bs
 induction bs generalizing p with
 | nil => intro r _; rfl
 | cons b bs ih =>
  intro r h
  rw [List.cons_append, lexR_blank p _ (h b (List.mem_cons_self ..)), ih (p + 1) r (fun x hx => h x (List.mem_cons_of_mem _ hx)), List.length_cons, show p + 1 + bs.length = p + (bs.length + 1) by omega]
theorem lexR_end : ∀ (k p : Nat) (s : List UInt8) (ts : List Tk), s.length ≤ k → lexR p s = .ok ts → ∃ us, ts = us ++ [⟨0, p + s.length, [], 0⟩] ∧ ∀ t ∈ us, t.text ≠ [] ∧ tokV t.text = .ok (t.kind, t.text, t.num)
 | k, p, [], ts, _, h => by
  rw [lexR_nil] at h
  cases h
  exact ⟨[], rfl, fun t ht => by cases ht⟩
 | 0, p, c :: r, ts, hk, h => by simp at hk
 | k + 1, p, c :: r, ts, hk, h => by
  simp only [List.length_cons] at hk
  cases hb : blankB c with
  | true =>
   rw [lexR_blank p r hb] at h
   obtain ⟨us, e, hu⟩ := lexR_end k (p + 1) r ts (by omega) h
   exact ⟨us, by rw [e, List.length_cons, show p + 1 + r.length = p + (r.length + 1) by omega], hu⟩
  | false =>
   cases ht : tokV (c :: r) with
   | error e => rw [lexR_err p hb ht] at h; cases h
   | ok x =>
    obtain ⟨q, t, n⟩ := x
    rw [lexR_tok p hb ht] at h
    have hok := tok_ok ht
    have hl := List.length_pos_iff.2 hok.1
    split at h
    ·cases h
    ·rename_i ts' h'
     cases h
     obtain ⟨us, e, hu⟩ := lexR_end k (p + t.length) ((c :: r).drop t.length) ts' (by rw [List.length_drop, List.length_cons]; omega) h'
     refine ⟨⟨q, p, t, n⟩ :: us, ?_, fun x hx => ?_⟩
     ·rw [e, List.cons_append]
      have := hok.2.2.1
      rw [List.length_drop, show p + t.length + ((c :: r).length - t.length) = p + (c :: r).length by omega]
     ·rcases List.mem_cons.1 hx with rfl | hx
      ·exact ⟨hok.1, tok_alone ht⟩
      ·exact hu x hx
abbrev Ky := Nat × List UInt8 × Nat
def Tk.ky (t : Tk) : Ky := (t.kind, t.text, t.num)
def kW (x : List UInt8) : Ky := (2, x, 0)
def kS (x : List UInt8) : Ky := (5, x, 0)
def kN (n : Nat) : Ky := (1, dec n, n)
def kA (x : Ng) : Ky := (if x.of = 3 then 4 else 3, adrT x, 0)
def sideK (k : Int) : List Ky := if k = 1 then [kW wSrc] else if k = 2 then [kW wDst] else []
def leafK (x : Ng) : List Ky :=
 if x.kind = 1 then [kN x.n]
 else if x.kind = 2 then [kW wLen]
 else if x.kind = 10 then [kW (if x.side = 1 then wInbound else wOutbound)]
 else if x.kind = 11 then [kW (nameT x.of)]
 else if x.kind = 12 then [kW wProto, kN x.n]
 else if x.kind = 13 then [kW (nameT x.of), kW wProto, kN x.n]
 else if x.kind = 14 then sideK x.side ++ [kW wHost, kA x]
 else if x.kind = 15 then sideK x.side ++ [kW wNet, kA x, kS [47], kN x.bits.toNat]
 else (if x.of = 0 then [] else [kW (nameT x.of)]) ++ sideK x.side ++ (if x.n = x.m then [kW wPort, kN x.n] else [kW wPortrange, kN x.n, kS [45], kN x.m])
def signK (x : Ng) : Ky := if x.kind = 7 then kW wAnd else if x.kind = 8 then kW wOr else if x.kind = 6 then kS (relT x.op) else kS (opT13 x.op)
def sizeK (n : Int) : List Ky := if n = 1 then [] else [kS [58], kN n.toNat]
def putK (want : Bool) (l : List Ky) : List Ky := if want = true then kS [40] :: (l ++ [kS [41]]) else l
def Tr.ky (full : Bool) : Tr → List Ky
 | .leaf x => leafK x
 | .one x p =>
  if x.kind = 3 then kW (nameT x.of) :: kS [91] :: (p.ky full ++ (sizeK x.size ++ [kS [93]]))
  else (if x.kind = 9 then kW wNot else kS [45]) :: putK (wantT full (rowG p.root) (rowG x)) (p.ky full)
 | .two x p q => putK (wantT full (rowG p.root) (if rowG x = 4 then 5 else rowG x)) (p.ky full) ++ signK x :: putK (wantT full (rowG q.root) (rowG x + 1)) (q.ky full)
theorem ky_nil {A : List Tk} (h : A.map Tk.ky = []) : A = [] := by simpa using h
theorem ky_cons {A : List Tk} {a : Ky} {l : List Ky} (h : A.map Tk.ky = a :: l) : ∃ p B, A = ⟨a.1, p, a.2.1, a.2.2⟩ :: B ∧ B.map Tk.ky = l := by
 cases A with
 | nil => simp at h
 | cons t B =>
  simp only [List.map_cons, List.cons.injEq] at h
  obtain ⟨rfl, h2⟩ := h
  exact ⟨t.pos, B, rfl, h2⟩
theorem ky_app {A : List Tk} {k l : List Ky} (h : A.map Tk.ky = k ++ l) : ∃ B C, A = B ++ C ∧ B.map Tk.ky = k ∧ C.map Tk.ky = l := by
 obtain ⟨B, C, h1, h2, h3⟩ := List.map_eq_append_iff.1 h
 exact ⟨B, C, h1, h2, h3⟩
def StopN (B : List Tk) : Prop := ∀ x ∈ [[91], wProto, wSrc, wDst, wPort, wPortrange], isB B x = false
theorem name_back {k : Int} (h : 1 ≤ k ∧ k ≤ 13) : (nameN (nameT k) : Int) = k := by
 have : k = 1 ∨ k = 2 ∨ k = 3 ∨ k = 4 ∨ k = 5 ∨ k = 6 ∨ k = 7 ∨ k = 8 ∨ k = 9 ∨ k = 10 ∨ k = 11 ∨ k = 12 ∨ k = 13 := by omega
 rcases this with rfl | rfl | rfl | rfl | rfl | rfl | rfl | rfl | rfl | rfl | rfl | rfl | rfl <;> decide
theorem in_le {a lo hi : Int} (h : inG a lo hi = true) : lo ≤ a ∧ a ≤ hi := by
 unfold inG at h
 have := Bool.and_eq_true_iff.1 h
 exact ⟨of_decide_eq_true this.1, of_decide_eq_true this.2⟩
theorem form_use {x : Ng} (h : formG x = true) (hl : x.addr.length = 16) : x = { useG x with addr := x.addr } ∧ adgs x = adgs (useG x) ∧ mayG x = true := by
 unfold formG at h
 obtain ⟨hs, hm⟩ := Bool.and_eq_true_iff.1 h
 unfold sameG at hs
 simp only [Bool.and_eq_true, decide_eq_true_eq] at hs
 obtain ⟨⟨⟨⟨⟨⟨⟨⟨h0, h1⟩, h2⟩, h3⟩, h4⟩, h5⟩, h6⟩, h7⟩, h8⟩ := hs
 refine ⟨?_, h7, hm⟩
 cases x
 simp only at h0 h1 h2 h3 h4 h5 h6 h8 ⊢
 congr
theorem adgs_id {x : Ng} (hl : x.addr.length = 16) : adgs x = x.addr := by
 unfold adgs
 generalize x.addr = l at *
 match l, hl with
 | [_, _, _, _, _, _, _, _, _, _, _, _, _, _, _, _], _ => rfl
theorem addr_zeros {x : Ng} (h : formG x = true) (hl : x.addr.length = 16) (hu : (useG x).addr = zeros 16) : x.addr = zeros 16 := by
 have := (form_use h hl).2.1
 rw [adgs_id hl] at this
 rw [this, adgs_id (by rw [hu]; rfl), hu]
theorem spart_num {rec : Nat → List Tk → Out} {nest p n : Nat} {t : List UInt8} {R : List Tk} : partF rec nest (⟨1, p, t, n⟩ :: R) = .ok ([({ ndK 1 with n := n }, p)], R) := by
 unfold partF
 exact if_pos rfl
theorem spart_word {rec : Nat → List Tk → Out} {nest p : Nat} {t : List UInt8} {R : List Tk} (ht : t ≠ [40]) : partF rec nest (⟨2, p, t, 0⟩ :: R) = if nameN t ≠ 0 then nameF rec nest (nameN t) p R else wordF (⟨2, p, t, 0⟩ :: R) := by
 unfold partF
 rw [if_neg (by show ¬ (2 = 1); decide), if_neg, if_neg (by show ¬ (2 ≠ 2); decide)]
 ·rfl
 ·show ¬ (((2 : Nat) == 5 || (2 : Nat) == 2) && t == [40]) = true
  simp [ht]
theorem spart_name {rec : Nat → List Tk → Out} {nest p : Nat} {k : Int} {R : List Tk} (hk : 1 ≤ k ∧ k ≤ 13) : partF rec nest (⟨2, p, nameT k, 0⟩ :: R) = nameF rec nest k.toNat p R := by
 have hb := name_back hk
 rw [spart_word, if_pos (by omega)]
 ·congr 1
  omega
 ·have : k = 1 ∨ k = 2 ∨ k = 3 ∨ k = 4 ∨ k = 5 ∨ k = 6 ∨ k = 7 ∨ k = 8 ∨ k = 9 ∨ k = 10 ∨ k = 11 ∨ k = 12 ∨ k = 13 := by omega
  rcases this with rfl | rfl | rfl | rfl | rfl | rfl | rfl | rfl | rfl | rfl | rfl | rfl | rfl <;> decide
theorem parse6_pairs (zs : List UInt8) (hz : zs.length = 16) : parse6V (print6V (pairsG zs)) = some zs := by
 rw [parse6_print6 _ (pairs_len 8 zs (by omega)) (pairs_lt zs), bytes_pairs 8 zs (by omega)]
theorem head_text {x : Ng} (hf : formG x = true) (hl : x.addr.length = 16) (hk : x.kind = 14 ∨ x.kind = 15) (p : Nat) (R : List Tk) (k : Nat) :
  ∃ d, addrT k (⟨(kA x).1, p, (kA x).2.1, (kA x).2.2⟩ :: R) = .ok (d, R) ∧ d = { ndK k with of := x.of.toNat, addr := x.addr } := by
 have hm := (form_use hf hl).2.2
 have hh : hostG x = true := by
  unfold mayG at hm
  rw [if_neg (by omega), if_neg (by omega), if_neg (by omega), if_neg (by omega), if_neg (by omega), if_neg (by omega), if_pos hk] at hm
  exact hm
 unfold hostG at hh
 simp only [Bool.and_eq_true, Bool.or_eq_true, beq_iff_eq, decide_eq_true_eq] at hh
 obtain ⟨⟨h1, -⟩, h3⟩ := hh
 have hof := in_le h1
 have hid := adgs_id hl
 by_cases h : x.of = 3
 ·refine ⟨_, ?_, rfl⟩
  unfold addrT kA adrT
  rw [if_neg (by rw [if_pos h]; show ¬ (4 = 3); decide), if_pos (by rw [if_pos h]; rfl)]
  show (match parse6V (if x.of = 3 then _ else _) with | some a => _ | none => _) = _
  rw [if_pos h, parse6_pairs _ (by rw [hid, hl])]
  show Except.ok _ = _
  rw [hid, h]
  rfl
 ·have h2 : x.of = 2 := by omega
  have h3 : (adgs x).drop 4 = zeros 12 := h3.resolve_left h
  refine ⟨_, ?_, rfl⟩
  unfold addrT kA adrT
  rw [if_pos (by rw [if_neg h]; rfl)]
  show (match parse4V (if x.of = 3 then _ else _) with | some a => _ | none => _) = _
  rw [if_neg h, parse4_print4 _ (by rw [List.length_take, hid, hl]; rfl)]
  show Except.ok _ = _
  have e : (adgs x).take 4 ++ List.replicate 12 0 = x.addr := by
   rw [show List.replicate 12 (0 : UInt8) = zeros 12 from rfl, ← h3, List.take_append_drop, hid]
  rw [e, h2]
  rfl
theorem side_read {k : Int} (hk : 0 ≤ k ∧ k ≤ 2) {A R : List Tk} (hA : A.map Tk.ky = sideK k) (hR : sideN R = 0) : sideN (A ++ R) = k.toNat ∧ sideR (A ++ R) = R ∧ (k ≠ 0 → ∃ p t, (t = wSrc ∨ t = wDst) ∧ A = [⟨2, p, t, 0⟩]) ∧ (k = 0 → A = []) := by
 have : k = 0 ∨ k = 1 ∨ k = 2 := by omega
 rcases this with rfl | rfl | rfl
 ·obtain rfl := ky_nil hA
  refine ⟨hR, ?_, fun h => absurd rfl h, fun _ => rfl⟩
  unfold sideR
  rw [List.nil_append, if_pos hR]
 ·obtain ⟨p, B, rfl, hB⟩ := ky_cons (a := kW wSrc) (l := []) hA
  obtain rfl := ky_nil hB
  have h1 : sideN ([⟨(kW wSrc).1, p, (kW wSrc).2.1, (kW wSrc).2.2⟩] ++ R) = 1 := rfl
  refine ⟨h1, ?_, fun _ => ⟨p, _, .inl rfl, rfl⟩, fun h => absurd h (by decide)⟩
  unfold sideR
  rw [if_neg (by rw [h1]; decide)]
  rfl
 ·obtain ⟨p, B, rfl, hB⟩ := ky_cons (a := kW wDst) (l := []) hA
  obtain rfl := ky_nil hB
  have h1 : sideN ([⟨(kW wDst).1, p, (kW wDst).2.1, (kW wDst).2.2⟩] ++ R) = 2 := rfl
  refine ⟨h1, ?_, fun _ => ⟨p, _, .inr rfl, rfl⟩, fun h => absurd h (by decide)⟩
  unfold sideR
  rw [if_neg (by rw [h1]; decide)]
  rfl
theorem part_sided {rec : Nat → List Tk → Out} {nest p : Nat} {t : List UInt8} {R : List Tk} (ht : t ∈ [wSrc, wDst, wHost, wNet, wPort, wPortrange]) : partF rec nest (⟨2, p, t, 0⟩ :: R) = sidedV 0 p (⟨2, p, t, 0⟩ :: R) := by
 simp only [List.mem_cons, List.not_mem_nil, or_false] at ht
 rcases ht with rfl | rfl | rfl | rfl | rfl | rfl
 ·rw [spart_word (by decide), if_neg (by decide)]; rfl
 ·rw [spart_word (by decide), if_neg (by decide)]; rfl
 ·rw [spart_word (by decide), if_neg (by decide)]; rfl
 ·rw [spart_word (by decide), if_neg (by decide)]; rfl
 ·rw [spart_word (by decide), if_neg (by decide)]; rfl
 ·rw [spart_word (by decide), if_neg (by decide)]; rfl
theorem isB_w (p : Nat) (x y : List UInt8) (R : List Tk) : isB (⟨2, p, x, 0⟩ :: R) y = (x == y) := rfl
theorem isB_s (p : Nat) (x y : List UInt8) (R : List Tk) : isB (⟨5, p, x, 0⟩ :: R) y = (x == y) := rfl
theorem sided_host {x : Ng} (hf : formG x = true) (hl : x.addr.length = 16) (hk : x.kind = 14) (at' s p q : Nat) (R : List Tk) :
  sidedB 0 at' s (⟨2, p, wHost, 0⟩ :: ⟨(kA x).1, q, (kA x).2.1, (kA x).2.2⟩ :: R) = .ok ([({ ndK 14 with of := x.of.toNat, addr := x.addr, side := s }, at')], R) := by
 obtain ⟨d, h1, h2⟩ := head_text hf hl (.inl hk) q R 14
 unfold sidedB
 rw [isB_w, isB_w, if_neg (by decide), if_neg (by decide), if_pos ⟨rfl, by rw [isB_w]; decide⟩]
 show thenE (addrT 14 (_ :: R)) _ = _
 rw [h1, h2]
 rfl
theorem num_read (p n : Nat) (t : List UInt8) (R : List Tk) : numT (⟨1, p, t, n⟩ :: R) = .ok (n, R) := rfl
theorem must_read (p : Nat) (t : List UInt8) (R : List Tk) : mustV t (⟨5, p, t, 0⟩ :: R) = .ok R := by
 unfold mustV
 rw [isB_s, if_pos (by simp)]
 rfl
theorem sided_net {x : Ng} (hf : formG x = true) (hl : x.addr.length = 16) (hk : x.kind = 15) (at' s p q r u : Nat) (R : List Tk) :
  sidedB 0 at' s (⟨2, p, wNet, 0⟩ :: ⟨(kA x).1, q, (kA x).2.1, (kA x).2.2⟩ :: ⟨5, r, [47], 0⟩ :: ⟨1, u, dec x.bits.toNat, x.bits.toNat⟩ :: R) = .ok ([({ ndK 15 with of := x.of.toNat, addr := x.addr, bits := x.bits.toNat, side := s }, at')], R) := by
 obtain ⟨d, h1, h2⟩ := head_text hf hl (.inr hk) q (⟨5, r, [47], 0⟩ :: ⟨1, u, dec x.bits.toNat, x.bits.toNat⟩ :: R) 15
 unfold sidedB
 rw [isB_w, isB_w, if_neg (by decide), if_neg (by decide), if_neg (by rw [isB_w]; rintro ⟨-, h⟩; revert h; decide), if_pos ⟨rfl, by rw [isB_w]; decide⟩]
 simp only [List.tail_cons, h1, h2, thenE_ok, must_read, num_read]
theorem spsided_port (of at' s p q n : Nat) (R : List Tk) : sidedB of at' s (⟨2, p, wPort, 0⟩ :: ⟨1, q, dec n, n⟩ :: R) = .ok ([({ ndK 16 with of := of, side := s, n := n, m := n }, at')], R) := by
 unfold sidedB
 rw [isB_w, if_pos (by decide)]
 simp only [List.tail_cons, num_read, thenE_ok]
theorem sided_range (of at' s p q r u n m : Nat) (R : List Tk) : sidedB of at' s (⟨2, p, wPortrange, 0⟩ :: ⟨1, q, dec n, n⟩ :: ⟨5, r, [45], 0⟩ :: ⟨1, u, dec m, m⟩ :: R) = .ok ([({ ndK 16 with of := of, side := s, n := n, m := m }, at')], R) := by
 unfold sidedB
 rw [isB_w, isB_w, if_neg (by decide), if_pos (by decide)]
 simp only [List.tail_cons, num_read, thenE_ok, must_read]
theorem leaf_read {x : Ng} (ha : arG x.kind = some 0) (hf : formG x = true) (hr : rangeE x = 0) (hl : x.addr.length = 16) {A R : List Tk} (hA : A.map Tk.ky = leafK x) (hR : StopN R) (rec : Nat → List Tk → Out) (nest : Nat) :
  ∃ d p, partF rec nest (A ++ R) = .ok ([(d, p)], R) ∧ d.g = x := by
 have hk : x.kind = 1 ∨ x.kind = 2 ∨ x.kind = 10 ∨ x.kind = 11 ∨ x.kind = 12 ∨ x.kind = 13 ∨ x.kind = 14 ∨ x.kind = 15 ∨ x.kind = 16 := by
  rcases arG_cases ha with ⟨h1, -⟩ | ⟨h1, -⟩ | ⟨-, h1⟩
  ·cases h1
  ·cases h1
  ·exact h1
 obtain ⟨hu, -, hm⟩ := form_use hf hl
 obtain ⟨g1, g2, g3, g4, g5, g6, -⟩ := form_node hf hr
 rcases hk with hk | hk | hk | hk | hk | hk | hk | hk | hk
 ·have hz := addr_zeros hf hl (by unfold useG; rw [hk]; rfl)
  unfold leafK at hA
  rw [if_pos hk] at hA
  obtain ⟨p, B, rfl, hB⟩ := ky_cons hA
  obtain rfl := ky_nil hB
  refine ⟨_, p, spart_num, ?_⟩
  rw [hu, hz]
  unfold useG
  rw [if_pos (.inl hk), hk]
  rfl
 ·have hz := addr_zeros hf hl (by unfold useG; rw [hk]; rfl)
  unfold leafK at hA
  rw [if_neg (by omega), if_pos hk] at hA
  obtain ⟨p, B, rfl, hB⟩ := ky_cons hA
  obtain rfl := ky_nil hB
  refine ⟨ndK 2, p, ?_, ?_⟩
  ·show partF rec nest (⟨2, p, wLen, 0⟩ :: R) = _
   rw [spart_word (by decide), if_neg (by decide)]
   rfl
  ·rw [hu, hz]
   unfold useG
   rw [hk]
   rfl
 ·have hz := addr_zeros hf hl (by unfold useG; rw [hk]; rfl)
  have hs : x.side = 1 ∨ x.side = 2 := by
   unfold mayG at hm
   rw [hk] at hm
   have := in_le (show inG x.side 1 2 = true from hm)
   omega
  unfold leafK at hA
  rw [if_neg (by omega), if_neg (by omega), if_pos hk] at hA
  obtain ⟨p, B, rfl, hB⟩ := ky_cons hA
  obtain rfl := ky_nil hB
  rcases hs with hs | hs
  ·refine ⟨{ ndK 10 with side := 1 }, p, ?_, ?_⟩
   ·rw [if_pos hs]
    show partF rec nest (⟨2, p, wInbound, 0⟩ :: R) = _
    rw [spart_word (by decide), if_neg (by decide)]
    rfl
   ·rw [hu, hz]
    unfold useG
    rw [hk, hs]
    rfl
  ·refine ⟨{ ndK 10 with side := 2 }, p, ?_, ?_⟩
   ·rw [if_neg (by omega)]
    show partF rec nest (⟨2, p, wOutbound, 0⟩ :: R) = _
    rw [spart_word (by decide), if_neg (by decide)]
    rfl
   ·rw [hu, hz]
    unfold useG
    rw [hk, hs]
    rfl
 ·have hz := addr_zeros hf hl (by unfold useG; rw [hk]; rfl)
  have hof := in_le (show inG x.of 2 13 = true by unfold mayG at hm; rw [hk] at hm; exact hm)
  unfold leafK at hA
  rw [if_neg (by omega), if_neg (by omega), if_neg (by omega), if_pos hk] at hA
  obtain ⟨p, B, rfl, hB⟩ := ky_cons hA
  obtain rfl := ky_nil hB
  refine ⟨{ ndK 11 with of := x.of.toNat }, p, ?_, ?_⟩
  ·show partF rec nest (⟨2, p, nameT x.of, 0⟩ :: R) = _
   rw [spart_name ⟨by omega, by omega⟩]
   unfold nameF
   rw [hR [91] (by simp), hR wProto (by simp), hR wSrc (by simp), hR wDst (by simp), hR wPort (by simp), hR wPortrange (by simp), if_neg (by simp), if_neg (by omega), if_neg (by simp), if_neg (by simp)]
  ·rw [hu, hz]
   unfold useG
   rw [hk]
   show (⟨11, 0, 0, 0, 0, (x.of.toNat : Int), 0, _, 0⟩ : Ng) = ⟨11, 0, 0, 0, 0, x.of, 0, _, 0⟩
   rw [show (x.of.toNat : Int) = x.of by omega]
   rfl
 ·have hz := addr_zeros hf hl (by unfold useG; rw [hk]; rfl)
  unfold leafK at hA
  rw [if_neg (by omega), if_neg (by omega), if_neg (by omega), if_neg (by omega), if_pos hk] at hA
  obtain ⟨p, B, rfl, hB⟩ := ky_cons hA
  obtain ⟨q, C, rfl, hC⟩ := ky_cons hB
  obtain rfl := ky_nil hC
  refine ⟨{ ndK 12 with n := x.n }, p, ?_, ?_⟩
  ·show partF rec nest (⟨2, p, wProto, 0⟩ :: ⟨1, q, dec x.n, x.n⟩ :: R) = _
   rw [spart_word (by decide), if_neg (by decide)]
   rfl
  ·rw [hu, hz]
   unfold useG
   rw [hk]
   rfl
 ·have hz := addr_zeros hf hl (by unfold useG; rw [hk]; rfl)
  have hof := in_le (show inG x.of 2 3 = true by unfold mayG at hm; rw [hk] at hm; exact hm)
  unfold leafK at hA
  rw [if_neg (by omega), if_neg (by omega), if_neg (by omega), if_neg (by omega), if_neg (by omega), if_pos hk] at hA
  obtain ⟨p, B, rfl, hB⟩ := ky_cons hA
  obtain ⟨q, C, rfl, hC⟩ := ky_cons hB
  obtain ⟨r, D, rfl, hD⟩ := ky_cons hC
  obtain rfl := ky_nil hD
  refine ⟨{ ndK 13 with of := x.of.toNat, n := x.n }, p, ?_, ?_⟩
  ·show partF rec nest (⟨2, p, nameT x.of, 0⟩ :: ⟨2, q, wProto, 0⟩ :: ⟨1, r, dec x.n, x.n⟩ :: R) = _
   rw [spart_name ⟨by omega, by omega⟩]
   unfold nameF
   rw [isB_w, isB_w, if_neg (by rintro ⟨h, -⟩; revert h; decide), if_neg (by omega), if_pos ⟨by omega, by decide⟩]
   rfl
  ·rw [hu, hz]
   unfold useG
   rw [hk]
   show (⟨13, 0, x.n, 0, 0, (x.of.toNat : Int), 0, _, 0⟩ : Ng) = ⟨13, 0, x.n, 0, 0, x.of, 0, _, 0⟩
   rw [show (x.of.toNat : Int) = x.of by omega]
   rfl
 ·unfold leafK at hA
  rw [if_neg (by omega), if_neg (by omega), if_neg (by omega), if_neg (by omega), if_neg (by omega), if_neg (by omega), if_pos hk] at hA
  obtain ⟨S, B, rfl, hS, hB⟩ := ky_app hA
  obtain ⟨p, C, rfl, hC⟩ := ky_cons hB
  obtain ⟨q, D, rfl, hD⟩ := ky_cons hC
  obtain rfl := ky_nil hD
  have hE : ∀ at', sidedV 0 at' (S ++ (⟨2, p, wHost, 0⟩ :: ⟨(kA x).1, q, (kA x).2.1, (kA x).2.2⟩ :: R)) = .ok ([({ ndK 14 with of := x.of.toNat, addr := x.addr, side := x.side.toNat }, at')], R) := fun at' => by
   obtain ⟨s1, s2, -, -⟩ := side_read ⟨g1, g2⟩ hS (R := ⟨2, p, wHost, 0⟩ :: ⟨(kA x).1, q, (kA x).2.1, (kA x).2.2⟩ :: R) rfl
   unfold sidedV
   rw [s1, s2]
   exact sided_host hf hl hk _ _ _ _ _
  obtain ⟨-, -, s3, s4⟩ := side_read ⟨g1, g2⟩ hS (R := ⟨2, p, wHost, 0⟩ :: ⟨(kA x).1, q, (kA x).2.1, (kA x).2.2⟩ :: R) rfl
  have hg : ∀ d : Nd, d = { ndK 14 with of := x.of.toNat, addr := x.addr, side := x.side.toNat } → d.g = x := fun d hd => by
   have e2 : useG x = ⟨14, 0, 0, 0, 0, x.of, x.side, x.addr, 0⟩ := by unfold useG; rw [hk]; rfl
   rw [hd, hu, e2]
   show (⟨14, 0, 0, 0, 0, (x.of.toNat : Int), (x.side.toNat : Int), x.addr, 0⟩ : Ng) = _
   rw [show (x.of.toNat : Int) = x.of by omega, show (x.side.toNat : Int) = x.side by omega]
  by_cases h0 : x.side = 0
  ·obtain rfl := s4 h0
   refine ⟨_, p, ?_, hg _ rfl⟩
   show partF rec nest (⟨2, p, wHost, 0⟩ :: _) = _
   rw [part_sided (by simp)]
   exact hE p
  ·obtain ⟨p0, t, ht, rfl⟩ := s3 h0
   refine ⟨_, p0, ?_, hg _ rfl⟩
   show partF rec nest (⟨2, p0, t, 0⟩ :: _) = _
   rw [part_sided (by rcases ht with rfl | rfl <;> simp)]
   exact hE p0
 ·unfold leafK at hA
  rw [if_neg (by omega), if_neg (by omega), if_neg (by omega), if_neg (by omega), if_neg (by omega), if_neg (by omega), if_neg (by omega), if_pos hk] at hA
  obtain ⟨S, B, rfl, hS, hB⟩ := ky_app hA
  obtain ⟨p, C, rfl, hC⟩ := ky_cons hB
  obtain ⟨q, D, rfl, hD⟩ := ky_cons hC
  obtain ⟨r, E, rfl, hE⟩ := ky_cons hD
  obtain ⟨u, F, rfl, hF⟩ := ky_cons hE
  obtain rfl := ky_nil hF
  have hE : ∀ at', sidedV 0 at' (S ++ (⟨2, p, wNet, 0⟩ :: ⟨(kA x).1, q, (kA x).2.1, (kA x).2.2⟩ :: ⟨5, r, [47], 0⟩ :: ⟨1, u, dec x.bits.toNat, x.bits.toNat⟩ :: R)) = .ok ([({ ndK 15 with of := x.of.toNat, addr := x.addr, bits := x.bits.toNat, side := x.side.toNat }, at')], R) := fun at' => by
   obtain ⟨s1, s2, -, -⟩ := side_read ⟨g1, g2⟩ hS (R := ⟨2, p, wNet, 0⟩ :: ⟨(kA x).1, q, (kA x).2.1, (kA x).2.2⟩ :: ⟨5, r, [47], 0⟩ :: ⟨1, u, dec x.bits.toNat, x.bits.toNat⟩ :: R) rfl
   unfold sidedV
   rw [s1, s2]
   exact sided_net hf hl hk _ _ _ _ _ _ _
  obtain ⟨-, -, s3, s4⟩ := side_read ⟨g1, g2⟩ hS (R := ⟨2, p, wNet, 0⟩ :: ⟨(kA x).1, q, (kA x).2.1, (kA x).2.2⟩ :: ⟨5, r, [47], 0⟩ :: ⟨1, u, dec x.bits.toNat, x.bits.toNat⟩ :: R) rfl
  have hg : ∀ d : Nd, d = { ndK 15 with of := x.of.toNat, addr := x.addr, bits := x.bits.toNat, side := x.side.toNat } → d.g = x := fun d hd => by
   have e2 : useG x = ⟨15, 0, 0, 0, 0, x.of, x.side, x.addr, x.bits⟩ := by unfold useG; rw [hk]; rfl
   rw [hd, hu, e2]
   show (⟨15, 0, 0, 0, 0, (x.of.toNat : Int), (x.side.toNat : Int), x.addr, (x.bits.toNat : Int)⟩ : Ng) = _
   rw [show (x.of.toNat : Int) = x.of by omega, show (x.side.toNat : Int) = x.side by omega, show (x.bits.toNat : Int) = x.bits by omega]
  by_cases h0 : x.side = 0
  ·obtain rfl := s4 h0
   refine ⟨_, p, ?_, hg _ rfl⟩
   show partF rec nest (⟨2, p, wNet, 0⟩ :: _) = _
   rw [part_sided (by simp)]
   exact hE p
  ·obtain ⟨p0, t, ht, rfl⟩ := s3 h0
   refine ⟨_, p0, ?_, hg _ rfl⟩
   show partF rec nest (⟨2, p0, t, 0⟩ :: _) = _
   rw [part_sided (by rcases ht with rfl | rfl <;> simp)]
   exact hE p0
 ·have hz := addr_zeros hf hl (by unfold useG; rw [hk]; rfl)
  have hof : x.of = 0 ∨ x.of = 4 ∨ x.of = 5 := by
   unfold mayG at hm
   rw [hk] at hm
   have h1 := (Bool.and_eq_true_iff.1 (show ((x.of == 0 || inG x.of 4 5) && inG x.side 0 2) = true from hm)).1
   rcases Bool.or_eq_true_iff.1 h1 with h2 | h2
   ·exact .inl (by simpa using h2)
   ·have := in_le h2
    omega
  have hg : ∀ d : Nd, d = { ndK 16 with of := x.of.toNat, side := x.side.toNat, n := x.n, m := x.m } → d.g = x := fun d hd => by
   have e2 : useG x = ⟨16, 0, x.n, x.m, 0, x.of, x.side, zeros 16, 0⟩ := by unfold useG; rw [hk]; rfl
   rw [hd, hu, e2, hz]
   show (⟨16, 0, x.n, x.m, 0, (x.of.toNat : Int), (x.side.toNat : Int), _, 0⟩ : Ng) = _
   rw [show (x.of.toNat : Int) = x.of by omega, show (x.side.toNat : Int) = x.side by omega]
   rfl
  unfold leafK at hA
  rw [if_neg (by omega), if_neg (by omega), if_neg (by omega), if_neg (by omega), if_neg (by omega), if_neg (by omega), if_neg (by omega), if_neg (by omega)] at hA
  obtain ⟨AB, C, rfl, hAB, hC⟩ := ky_app hA
  obtain ⟨N, S, rfl, hN, hS⟩ := ky_app hAB
  have hP : ∃ t p B, C ++ R = ⟨2, p, t, 0⟩ :: B ∧ (t = wPort ∨ t = wPortrange) ∧ ∀ of at' s, sidedB of at' s (C ++ R) = .ok ([({ ndK 16 with of := of, side := s, n := x.n, m := x.m }, at')], R) := by
   by_cases hnm : x.n = x.m
   ·rw [if_pos hnm] at hC
    obtain ⟨p, D, rfl, hD⟩ := ky_cons hC
    obtain ⟨q, E, rfl, hE⟩ := ky_cons hD
    obtain rfl := ky_nil hE
    exact ⟨wPort, p, _, rfl, .inl rfl, fun of at' s => by rw [← hnm]; exact spsided_port _ _ _ _ _ _ _⟩
   ·rw [if_neg hnm] at hC
    obtain ⟨p, D, rfl, hD⟩ := ky_cons hC
    obtain ⟨q, E, rfl, hE⟩ := ky_cons hD
    obtain ⟨r, F, rfl, hF⟩ := ky_cons hE
    obtain ⟨u, G, rfl, hG⟩ := ky_cons hF
    obtain rfl := ky_nil hG
    exact ⟨wPortrange, p, _, rfl, .inr rfl, fun of at' s => sided_range _ _ _ _ _ _ _ _ _ _⟩
  obtain ⟨t, pt, B, hCR, ht, hsd⟩ := hP
  have hs0 : sideN (C ++ R) = 0 := by
   rw [hCR]
   unfold sideN
   rw [isB_w, isB_w]
   rcases ht with rfl | rfl <;> decide
  obtain ⟨s1, s2, s3, s4⟩ := side_read ⟨g1, g2⟩ hS hs0
  have hE : ∀ of at', sidedV of at' (S ++ (C ++ R)) = .ok ([({ ndK 16 with of := of, side := x.side.toNat, n := x.n, m := x.m }, at')], R) := fun of at' => by
   unfold sidedV
   rw [s1, s2]
   exact hsd _ _ _
  have hhd : ∃ t' p' B', S ++ (C ++ R) = ⟨2, p', t', 0⟩ :: B' ∧ (t' = wSrc ∨ t' = wDst ∨ t' = wPort ∨ t' = wPortrange) := by
   by_cases h0 : x.side = 0
   ·obtain rfl := s4 h0
    exact ⟨t, pt, B, hCR, .inr (.inr ht)⟩
   ·obtain ⟨p0, t0, ht0, rfl⟩ := s3 h0
    exact ⟨t0, p0, _, rfl, by rcases ht0 with h | h <;> simp [h]⟩
  obtain ⟨t', p', B', hB', ht'⟩ := hhd
  rw [show N ++ S ++ C ++ R = N ++ (S ++ (C ++ R)) by simp]
  rcases hof with h0 | h4
  ·rw [if_pos h0] at hN
   obtain rfl := ky_nil hN
   refine ⟨_, p', ?_, hg _ rfl⟩
   rw [List.nil_append, hB', part_sided (by rcases ht' with rfl | rfl | rfl | rfl <;> simp), ← hB', hE, h0]
   rfl
  ·rw [if_neg (by omega)] at hN
   obtain ⟨p, D, rfl, hD⟩ := ky_cons hN
   obtain rfl := ky_nil hD
   refine ⟨_, p, ?_, hg _ rfl⟩
   show partF rec nest (⟨2, p, nameT x.of, 0⟩ :: (S ++ (C ++ R))) = _
   rw [spart_name ⟨by omega, by omega⟩]
   have hi : ∀ y, isB (S ++ (C ++ R)) y = (t' == y) := fun y => by rw [hB']; rfl
   unfold nameF
   rw [hi, hi, hi, hi, hi, hi, if_neg (by rintro ⟨h, -⟩; rcases ht' with rfl | rfl | rfl | rfl <;> revert h <;> decide), if_neg (by omega), if_neg (by omega), if_pos ⟨by omega, by rcases ht' with rfl | rfl | rfl | rfl <;> decide⟩, hE]

end Go.Proofs.YtghbbephhoniaaaGreatDoor
