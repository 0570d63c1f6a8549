import Derived.Test.YtklipelnjgpnjaaGreatDoorLotA23
import Derived.Test.YtklipelnjgpnjaaGreatDoorLotA21
namespace Go.Proofs.YtklipelnjgpnjaaGreatDoor
open Go.RowKit
set_option maxRecDepth 100000
abbrev Ky := Nat × List UInt8 × Nat
def Tk.ky (t : Tk) : Ky := (t.kind, t.text, t.num)
def kW (x : List UInt8) : Ky := (2, x, 0)
def kS (x : List UInt8) : Ky := (5, x, 0)
def kN (n : Nat) : Ky := (1, dec n, n)
def kA (x : Ng) : Ky := (if x.of = 3 then 4 else 3, adrT x, 0)
def sideK (k : Int) : List Ky := if k = 1 then [kW wSrc] else if k = 2 then [kW wDst] else []
def leafK (x : Ng) : List Ky :=
 if x.kind = 1 then [kN x.n]
 else if x.kind = 2 then [kW wLen]
 else if x.kind = 10 then [kW (if x.side = 1 then wInbound else wOutbound)]
 else if x.kind = 11 then [kW (nameT x.of)]
 else if x.kind = 12 then [kW wProto, kN x.n]
 else if x.kind = 13 then [kW (nameT x.of), kW wProto, kN x.n]
 else if x.kind = 14 then sideK x.side ++ [kW wHost, kA x]
 else if x.kind = 15 then sideK x.side ++ [kW wNet, kA x, kS [47], kN x.bits.toNat]
 else (if x.of = 0 then [] else [kW (nameT x.of)]) ++ sideK x.side ++ (if x.n = x.m then [kW wPort, kN x.n] else [kW wPortrange, kN x.n, kS [45], kN x.m])
def signK (x : Ng) : Ky := if x.kind = 7 then kW wAnd else if x.kind = 8 then kW wOr else if x.kind = 6 then kS (relT x.op) else kS (opT13 x.op)
def sizeK (n : Int) : List Ky := if n = 1 then [] else [kS [58], kN n.toNat]
def putK (want : Bool) (l : List Ky) : List Ky := if want = true then kS [40] :: (l ++ [kS [41]]) else l
def Tr.ky (full : Bool) : Tr → List Ky
 | .leaf x => leafK x
 | .one x p =>
  if x.kind = 3 then kW (nameT x.of) :: kS [91] :: (p.ky full ++ (sizeK x.size ++ [kS [93]]))
  else (if x.kind = 9 then kW wNot else kS [45]) :: putK (wantT full (rowG p.root) (rowG x)) (p.ky full)
 | .two x p q => putK (wantT full (rowG p.root) (if rowG x = 4 then 5 else rowG x)) (p.ky full) ++ signK x :: putK (wantT full (rowG q.root) (rowG x + 1)) (q.ky full)
theorem ky_nil {A : List Tk} (h : A.map Tk.ky = []) : A = [] := by simpa using h
theorem ky_cons {A : List Tk} {a : Ky} {l : List Ky} (h : A.map Tk.ky = a :: l) : ∃ p B, A = ⟨a.1, p, a.2.1, a.2.2⟩ :: B ∧ B.map Tk.ky = l := by
 cases A with
 | nil => simp at h
 | cons t B =>
  simp only [List.map_cons, List.cons.injEq] at h
  obtain ⟨rfl, h2⟩ := h
  exact ⟨t.pos, B, rfl, h2⟩
theorem ky_app {A : List Tk} {k l : List Ky} (h : A.map Tk.ky = k ++ l) : ∃ B C, A = B ++ C ∧ B.map Tk.ky = k ∧ C.map Tk.ky = l := by
 obtain ⟨B, C, h1, h2, h3⟩ := List.map_eq_append_iff.1 h
 exact ⟨B, C, h1, h2, h3⟩
def StopN (B : List Tk) : Prop := ∀ x ∈ [[91], wProto, wSrc, wDst, wPort, wPortrange], isB B x = false
theorem name_back {k : Int} (h : 1 ≤ k ∧ k ≤ 13) : (nameN (nameT k) : Int) = k := by
 have : k = 1 ∨ k = 2 ∨ k = 3 ∨ k = 4 ∨ k = 5 ∨ k = 6 ∨ k = 7 ∨ k = 8 ∨ k = 9 ∨ k = 10 ∨ k = 11 ∨ k = 12 ∨ k = 13 := by omega
 rcases this with rfl | rfl | rfl | rfl | rfl | rfl | rfl | rfl | rfl | rfl | rfl | rfl | rfl <;> decide
theorem in_le {a lo hi : Int} (h : inG a lo hi = true) : lo ≤ a ∧ a ≤ hi := by
 unfold inG at h
 have := Bool.and_eq_true_iff.1 h
 exact ⟨of_decide_eq_true this.1, of_decide_eq_true this.2⟩
theorem form_use {x : Ng} (h : formG x = true) (hl : x.addr.length = 16) : x = { useG x with addr := x.addr } ∧ adgs x = adgs (useG x) ∧ mayG x = true := by
 unfold formG at h
 obtain ⟨hs, hm⟩ := Bool.and_eq_true_iff.1 h
 unfold sameG at hs
 simp only [Bool.and_eq_true, decide_eq_true_eq] at hs
 obtain ⟨⟨⟨⟨⟨⟨⟨⟨h0, h1⟩, h2⟩, h3⟩, h4⟩, h5⟩, h6⟩, h7⟩, h8⟩ := hs
 refine ⟨?_, h7, hm⟩
 cases x
 simp only at h0 h1 h2 h3 h4 h5 h6 h8 ⊢
 congr
theorem adgs_id {x : Ng} (hl : x.addr.length = 16) : adgs x = x.addr := by
 unfold adgs
 generalize x.addr = l at *
 match l, hl with
 | [_, _, _, _, _, _, _, _, _, _, _, _, _, _, _, _], _ => rfl
theorem addr_zeros {x : Ng} (h : formG x = true) (hl : x.addr.length = 16) (hu : (useG x).addr = zeros 16) : x.addr = zeros 16 := by
 have := (form_use h hl).2.1
 rw [adgs_id hl] at this
 rw [this, adgs_id (by rw [hu]; rfl), hu]
theorem spart_num {rec : Nat → List Tk → Out} {nest p n : Nat} {t : List UInt8} {R : List Tk} : partF rec nest (⟨1, p, t, n⟩ :: R) = .ok ([({ ndK 1 with n := n }, p)], R) := by
 unfold partF
 exact if_pos rfl
theorem spart_word {rec : Nat → List Tk → Out} {nest p : Nat} {t : List UInt8} {R : List Tk} (ht : t ≠ [40]) : partF rec nest (⟨2, p, t, 0⟩ :: R) = if nameN t ≠ 0 then nameF rec nest (nameN t) p R else wordF (⟨2, p, t, 0⟩ :: R) := by
 unfold partF
 rw [if_neg (by show ¬ (2 = 1); decide), if_neg, if_neg (by show ¬ (2 ≠ 2); decide)]
 ·rfl
 ·show ¬ (((2 : Nat) == 5 || (2 : Nat) == 2) && t == [40]) = true
  simp [ht]
theorem spart_name {rec : Nat → List Tk → Out} {nest p : Nat} {k : Int} {R : List Tk} (hk : 1 ≤ k ∧ k ≤ 13) : partF rec nest (⟨2, p, nameT k, 0⟩ :: R) = nameF rec nest k.toNat p R := by
 have hb := name_back hk
 rw [spart_word, if_pos (by omega)]
 ·congr 1
  omega
 ·have : k = 1 ∨ k = 2 ∨ k = 3 ∨ k = 4 ∨ k = 5 ∨ k = 6 ∨ k = 7 ∨ k = 8 ∨ k = 9 ∨ k = 10 ∨ k = 11 ∨ k = 12 ∨ k = 13 := by omega
  rcases this with rfl | rfl | rfl | rfl | rfl | rfl | rfl | rfl | rfl | rfl | rfl | rfl | rfl <;> decide
theorem tok_hd {c : UInt8} {r : List UInt8} {x : Nat × List UInt8 × Nat} (h : tokV (c :: r) = .ok x) : blankB c = false := by
 cases hb : blankB c with
 | false => rfl
 | true =>
  obtain ⟨h1, h2, h3, h4, h5, h6⟩ := blank_not hb
  exfalso
  have hs : signV (c :: r) = [] := by
   unfold signV
   have h2' : ¬ ((c :: r).take 2 ∈ twosL) := by
    unfold blankB at hb
    simp only [Bool.or_eq_true, beq_iff_eq] at hb
    cases r with
    | nil => simp [twosL]
    | cons d r =>
     show ¬ ([c, d] ∈ twosL)
     simp only [twosL, List.mem_cons, List.not_mem_nil, or_false, List.cons.injEq, and_true]
     rcases hb with ((rfl | rfl) | rfl) | rfl <;> simp
   rw [if_neg h2', if_neg (by show ¬ onesL.contains c = true; rw [h6]; simp)]
  unfold tokV at h
  rw [List.takeWhile_cons_of_neg (by rw [h1]; simp), if_neg (by simp), if_neg (by show ¬ isDig c = true; rw [h4]; simp), if_neg (by show ¬ letB c = true; rw [h5]; simp), if_pos hs] at h
  cases h
def LexS (s : List UInt8) (ks : List Ky) (c : List UInt8 → Prop) : Prop := ∀ (p : Nat) (r : List UInt8) (us : List Tk), c r → lexR (p + s.length) r = .ok us → ∃ A, lexR p (s ++ r) = .ok (A ++ us) ∧ A.map Tk.ky = ks
theorem LexS.mono {s : List UInt8} {ks : List Ky} {c d : List UInt8 → Prop} (h : LexS s ks c) (hc : ∀ r, d r → c r) : LexS s ks d := fun p r us hr hu => h p r us (hc r hr) hu
theorem LexS.app {s t : List UInt8} {ks ls : List Ky} {c d : List UInt8 → Prop} (h1 : LexS s ks c) (h2 : LexS t ls d) (hc : ∀ r, d r → c (t ++ r)) : LexS (s ++ t) (ks ++ ls) d := fun p r us hr hu => by
 obtain ⟨B, b1, b2⟩ := h2 (p + s.length) r us hr (by rw [Nat.add_assoc, ← List.length_append]; exact hu)
 obtain ⟨A, a1, a2⟩ := h1 p (t ++ r) (B ++ us) (hc r hr) b1
 exact ⟨A ++ B, by rw [List.append_assoc, a1, List.append_assoc], by rw [List.map_append, a2, b2]⟩
theorem lexs_tok {k : Ky} {c : List UInt8 → Prop} (h : ∀ r, c r → tokV (k.2.1 ++ r) = .ok (k.1, k.2.1, k.2.2)) : LexS k.2.1 [k] c := fun p r us hr hu => by
 have ht := h r hr
 have hne := (tok_ok ht).1
 cases hk : k.2.1 with
 | nil => exact absurd hk hne
 | cons c0 r0 =>
  rw [hk, List.cons_append] at ht
  rw [hk] at hu
  refine ⟨[⟨k.1, p, k.2.1, k.2.2⟩], ?_, rfl⟩
  rw [List.cons_append, lexR_tok p (tok_hd ht) ht, ← List.cons_append, List.drop_left, hu, hk]
  rfl
theorem lexs_blank : LexS [32] [] (fun _ => True) := fun p r us _ hu => ⟨[], by rw [List.singleton_append, lexR_blank p r (by decide)]; exact hu, rfl⟩
theorem lexs_nil : LexS [] [] (fun _ => True) := fun _ _ _ _ hu => ⟨[], hu, rfl⟩
def EndS (r : List UInt8) : Prop := r = [] ∨ ∃ b r', r = b :: r' ∧ b ∈ [32, 41, 93, 45, 47, 91]
def EndC (r : List UInt8) : Prop := EndS r ∨ ∃ d r', r = 58 :: d :: 93 :: r' ∧ d ≠ 58
theorem end_c {r : List UInt8} (h : EndS r) : EndC r := .inl h
theorem end_b {b : UInt8} (h : b ∈ [32, 41, 93, 45, 47, 91]) (r : List UInt8) : EndS (b :: r) := .inr ⟨b, r, rfl, h⟩
theorem end_bits {b : UInt8} (h : b ∈ [32, 41, 93, 45, 47, 91]) : sixB b = false ∧ quadB b = false ∧ wordB b = false ∧ ∀ c, ¬ ([c, b] ∈ twosL) := by
 simp only [List.mem_cons, List.not_mem_nil, or_false] at h
 rcases h with rfl | rfl | rfl | rfl | rfl | rfl <;> exact ⟨by decide, by decide, by decide, fun c => by simp [twosL]⟩
theorem spsign_two {t : List UInt8} {b : UInt8} (ht : t ≠ []) (h : ∀ c, ¬ ([c, b] ∈ twosL)) (r : List UInt8) : signV (t ++ b :: r) = signV t := by
 cases t with
 | nil => exact absurd rfl ht
 | cons c t =>
  cases t with
  | nil =>
   have h2 : ¬ ([c].take 2 ∈ twosL) := by simp [twosL]
   unfold signV
   rw [if_neg (show ¬ (([c] ++ b :: r).take 2 ∈ twosL) from h c), if_neg h2]
   rfl
  | cons d t => rfl
theorem sphead_app {t : List UInt8} (ht : t ≠ []) (r : List UInt8) : (t ++ r).head? = t.head? := by
 cases t with
 | nil => exact absurd rfl ht
 | cons c t => rfl
theorem tok_s {t r : List UInt8} (ht : t ≠ []) (h : EndS r) : tokV (t ++ r) = tokV t := by
 rcases h with rfl | ⟨b, r', rfl, hb⟩
 ·rw [List.append_nil]
 ·obtain ⟨b1, b2, b3, b4⟩ := end_bits hb
  have hb : ∀ p : UInt8 → Bool, p b = false → (t ++ b :: r').takeWhile p = t.takeWhile p := fun p hp => takeWhile_end p t _ (.inr ⟨b, r', rfl, hp⟩)
  unfold tokV
  rw [hb sixB b1, hb quadB b2, hb wordB b3, sphead_app ht, spsign_two ht b4]
theorem count_app (p : UInt8 → Bool) (t u : List UInt8) : ((t ++ u).takeWhile p).count 58 ≤ t.count 58 + (u.takeWhile p).count 58 := by
 induction t with
 | nil => simp
 | cons c t ih =>
  rw [List.cons_append]
  by_cases hc : p c = true
  ·rw [List.takeWhile_cons_of_pos hc, List.count_cons, List.count_cons]
   omega
  ·rw [List.takeWhile_cons_of_neg hc]
   simp
theorem tok_c {t r : List UInt8} (ht : t ≠ []) (hc : 58 ∉ t) (h : EndC r) : tokV (t ++ r) = tokV t := by
 rcases h with h | ⟨d, r', rfl, hd⟩
 ·exact tok_s ht h
 ·have hb : ∀ p : UInt8 → Bool, p 58 = false → (t ++ 58 :: d :: 93 :: r').takeWhile p = t.takeWhile p := fun p hp => takeWhile_end p t _ (.inr ⟨58, _, rfl, hp⟩)
  have h0 : t.count 58 = 0 := List.count_eq_zero.2 hc
  have h1 : ¬ 2 ≤ ((t ++ 58 :: d :: 93 :: r').takeWhile sixB).count 58 := by
   have := count_app sixB t (58 :: d :: 93 :: r')
   have h2 : ((58 :: d :: 93 :: r').takeWhile sixB).count 58 ≤ 1 := by
    rw [List.takeWhile_cons_of_pos (by decide)]
    by_cases hs : sixB d = true
    ·rw [List.takeWhile_cons_of_pos hs, List.takeWhile_cons_of_neg (by decide), List.count_cons, List.count_cons]
     simp [hd]
    ·rw [List.takeWhile_cons_of_neg hs]
     decide
   omega
  have h3 : ¬ 2 ≤ (t.takeWhile sixB).count 58 := by
   have := count_app sixB t []
   rw [List.append_nil] at this
   simp only [List.takeWhile_nil, List.count_nil] at this
   omega
  unfold tokV
  rw [if_neg h1, if_neg h3, hb quadB (by decide), hb wordB (by decide), sphead_app ht, spsign_two ht (fun c => by simp [twosL])]
theorem tok_one {b : UInt8} (h6 : sixB b = false) (hd : isDig b = false) (hl : letB b = false) (h1 : onesL.contains b = true) (h2 : ∀ c, ¬ ([b, c] ∈ twosL)) (r : List UInt8) : tokV ([b] ++ r) = .ok (5, [b], 0) := by
 unfold tokV
 have h0 : ([b] ++ r).takeWhile sixB = [] := List.takeWhile_cons_of_neg (by rw [h6]; simp)
 rw [h0]
 rw [if_neg (by decide), if_neg (by show ¬ isDig b = true; rw [hd]; simp), if_neg (by show ¬ letB b = true; rw [hl]; simp)]
 have hs : signV ([b] ++ r) = [b] := by
  unfold signV
  have h3 : ¬ (([b] ++ r).take 2 ∈ twosL) := by
   cases r with
   | nil => show ¬ ([b] ∈ twosL); simp [twosL]
   | cons d m => exact h2 d
  rw [if_neg h3, if_pos (show ([b] ++ r).head?.all (onesL.contains ·) = true from h1)]
  rfl
 rw [hs, if_neg (by simp)]
theorem lexs_one {b : UInt8} (h6 : sixB b = false) (hd : isDig b = false) (hl : letB b = false) (h1 : onesL.contains b = true) (h2 : ∀ c, ¬ ([b, c] ∈ twosL)) : LexS [b] [kS [b]] (fun _ => True) :=
 lexs_tok (k := kS [b]) fun _ _ => tok_one h6 hd hl h1 h2 _
theorem lexs_lp : LexS [40] [kS [40]] (fun _ => True) := lexs_one (by decide) (by decide) (by decide) (by decide) (fun c => by simp [twosL])
theorem lexs_rp : LexS [41] [kS [41]] (fun _ => True) := lexs_one (by decide) (by decide) (by decide) (by decide) (fun c => by simp [twosL])
theorem lexs_lb : LexS [91] [kS [91]] (fun _ => True) := lexs_one (by decide) (by decide) (by decide) (by decide) (fun c => by simp [twosL])
theorem lexs_rb : LexS [93] [kS [93]] (fun _ => True) := lexs_one (by decide) (by decide) (by decide) (by decide) (fun c => by simp [twosL])
theorem lexs_minus : LexS [45] [kS [45]] (fun _ => True) := lexs_one (by decide) (by decide) (by decide) (by decide) (fun c => by simp [twosL])
theorem lexs_slash : LexS [47] [kS [47]] (fun _ => True) := lexs_one (by decide) (by decide) (by decide) (by decide) (fun c => by simp [twosL])
theorem lexs_word {x : List UInt8} (h : tokV x = .ok (2, x, 0)) (hc : 58 ∉ x) : LexS x [kW x] EndC :=
 lexs_tok (k := kW x) fun _ hr => (tok_c (tok_ok h).1 hc hr).trans h
theorem lexs_wordS {x : List UInt8} (h : tokV x = .ok (2, x, 0)) : LexS x [kW x] EndS :=
 lexs_tok (k := kW x) fun _ hr => (tok_s (tok_ok h).1 hr).trans h
theorem lexs_sign {x : List UInt8} (h : tokV x = .ok (5, x, 0)) : LexS x [kS x] EndS :=
 lexs_tok (k := kS x) fun _ hr => (tok_s (tok_ok h).1 hr).trans h
theorem dig_six {c : UInt8} (h : isDig c = true) : c ≠ 58 ∧ c ≠ 46 ∧ wordB c = true ∧ quadB c = true ∧ c ≠ 120 := by
 refine ⟨?_, ?_, ?_, ?_, ?_⟩
 ·rintro rfl; revert h; decide
 ·rintro rfl; revert h; decide
 ·unfold wordB; rw [h]; rfl
 ·unfold quadB; rw [h]; rfl
 ·rintro rfl; revert h; decide
theorem tok_dec {n : Nat} (h : n ≤ 4294967295) : tokV (dec n) = .ok (1, dec n, n) := by
 have h20 : n < 10 ^ 20 := by omega
 have hd := dec_dig n h20
 have hne := dec_ne n h20
 have hv := numberV_dec 4294967295 n h h20
 generalize dec n = s at *
 have hc : ¬ 2 ≤ (s.takeWhile sixB).count 58 := by
  have : (s.takeWhile sixB).count 58 = 0 := List.count_eq_zero.2 (fun hm => (dig_six (hd _ ((List.takeWhile_sublist _).subset hm))).1 rfl)
  omega
 have h46 : ¬ 46 ∈ s.takeWhile quadB := fun hm => (dig_six (hd _ ((List.takeWhile_sublist _).subset hm))).2.1 rfl
 have hw : s.takeWhile wordB = s := takeWhile_all wordB s (fun x hx => (dig_six (hd x hx)).2.2.1)
 have hh : s.head?.any isDig = true := by
  cases s with
  | nil => exact absurd rfl hne
  | cons c r => exact hd c (List.mem_cons_self ..)
 have hn : numV s = some n := by
  unfold numV
  rw [if_neg ?_]
  ·exact hv
  ·rintro ⟨h2, -, hx⟩
   match s, h2, hx with
   | a :: b :: r, _, hx =>
    have hx : b = 120 := hx
    exact (dig_six (hd b (by simp))).2.2.2.2 hx
 unfold tokV
 rw [if_neg hc, if_pos hh, if_neg h46, hw, hn]
theorem dec_colon {n : Nat} (h : n ≤ 4294967295) : 58 ∉ dec n := fun hm => (dig_six (dec_dig n (by omega) _ hm)).1 rfl
theorem lexs_dec {n : Nat} (h : n ≤ 4294967295) : LexS (dec n) [kN n] EndC :=
 lexs_tok (k := kN n) fun _ hr => (tok_c (tok_ok (tok_dec h)).1 (dec_colon h) hr).trans (tok_dec h)
theorem join_mem {b : UInt8} : ∀ {ls : List (List UInt8)} {c : UInt8}, c ∈ joinV b ls → c = b ∨ ∃ l ∈ ls, c ∈ l
 | [], c, h => by cases h
 | [x], c, h => .inr ⟨x, by simp, by rw [joinV_one] at h; exact h⟩
 | x :: y :: r, c, h => by
  rw [joinV_cons] at h
  rcases List.mem_append.1 h with h | h
  ·exact .inr ⟨x, by simp, h⟩
  ·rcases List.mem_cons.1 h with h | h
   ·exact .inl h
   ·rcases join_mem h with h | ⟨l, hl, h⟩
    ·exact .inl h
    ·exact .inr ⟨l, List.mem_cons_of_mem _ hl, h⟩
theorem tok_four {a : List UInt8} (h : a.length = 4) : tokV (print4V a) = .ok (3, print4V a, 0) := by
 have hlt : ∀ x : UInt8, x.toNat < 10 ^ 20 := fun x => by have := x.toNat_lt; omega
 have hm : ∀ c ∈ print4V a, c = 46 ∨ isDig c = true := fun c hc => by
  rcases join_mem hc with h | ⟨l, hl, h⟩
  ·exact .inl h
  ·obtain ⟨x, -, rfl⟩ := List.mem_map.1 hl
   exact .inr (dec_dig _ (hlt x) c h)
 have hc : ¬ 2 ≤ ((print4V a).takeWhile sixB).count 58 := by
  have : ((print4V a).takeWhile sixB).count 58 = 0 := List.count_eq_zero.2 (fun hq => by
   rcases hm _ ((List.takeWhile_sublist _).subset hq) with h | h
   ·revert h; decide
   ·revert h; decide)
  omega
 have hq : (print4V a).takeWhile quadB = print4V a := takeWhile_all quadB _ (fun c hc => by
  rcases hm c hc with rfl | h
  ·decide
  ·exact (dig_six h).2.2.2.1)
 match a, h with
 | [x, y, z, u], _ =>
  have hp : print4V [x, y, z, u] = dec x.toNat ++ 46 :: joinV 46 [dec y.toNat, dec z.toNat, dec u.toNat] := by
   unfold print4V
   rw [List.map_cons, List.map_cons, joinV_cons]
   rfl
  have hh : (print4V [x, y, z, u]).head?.any isDig = true := by
   rw [hp]
   have h1 := dec_ne x.toNat (hlt x)
   have h2 := dec_dig x.toNat (hlt x)
   generalize dec x.toNat = s at *
   cases s with
   | nil => exact absurd rfl h1
   | cons c r => exact h2 c (List.mem_cons_self ..)
  have h46 : 46 ∈ print4V [x, y, z, u] := by rw [hp]; simp
  unfold tokV
  rw [if_neg hc, if_pos hh, hq, if_pos h46]
theorem join_count : ∀ (ls : List (List UInt8)), ls.length ≤ (joinV 58 ls).count 58 + 1
 | [] => by decide
 | [x] => by simp
 | x :: y :: r => by
  have := join_count (y :: r)
  rw [joinV_cons, List.count_append, List.count_cons]
  simp only [List.length_cons] at this ⊢
  simp
  omega
theorem strip_mem : ∀ {l : List UInt8} {c : UInt8}, c ∈ stripV l → c ∈ l
 | [], c, h => h
 | a :: r, c, h => by
  unfold stripV at h
  split at h
  ·exact List.mem_cons_of_mem _ (strip_mem h)
  ·exact h
theorem short_six {g : Nat} {c : UInt8} (h : c ∈ shortV g) : sixB c = true := by
 have h := strip_mem h
 have key : ∀ n, n < 16 → sixB (hexD n) = true := fun n hn => by
  unfold sixB
  rw [(hexD_dig hn).1]
  rfl
 unfold fullV at h
 simp only [List.mem_cons, List.not_mem_nil, or_false] at h
 rcases h with rfl | rfl | rfl | rfl
 ·exact key _ (Nat.mod_lt _ (by decide))
 ·exact key _ (Nat.mod_lt _ (by decide))
 ·exact key _ (Nat.mod_lt _ (by decide))
 ·exact key _ (Nat.mod_lt _ (by decide))
theorem sptok_six {gs : List Nat} (h8 : gs.length = 8) : tokV (print6V gs) = .ok (4, print6V gs, 0) := by
 have hj : ∀ (l : List Nat) (c : UInt8), c ∈ joinV 58 (l.map shortV) → sixB c = true := fun l c hc => by
  rcases join_mem hc with rfl | ⟨x, hx, h⟩
  ·decide
  ·obtain ⟨g, -, rfl⟩ := List.mem_map.1 hx
   exact short_six h
 have hm : (∀ c ∈ print6V gs, sixB c = true) ∧ 2 ≤ (print6V gs).count 58 := by
  unfold print6V
  cases bestF 0 gs none with
  | none =>
   refine ⟨hj gs, ?_⟩
   have := join_count (gs.map shortV)
   rw [List.length_map, h8] at this
   show 2 ≤ (joinV 58 (gs.map shortV)).count 58
   omega
  | some p =>
   refine ⟨fun c hc => ?_, ?_⟩
   ·rcases List.mem_append.1 hc with h | h
    ·exact hj _ c h
    ·rcases List.mem_cons.1 h with rfl | h
     ·decide
     ·rcases List.mem_cons.1 h with rfl | h
      ·decide
      ·exact hj _ c h
   ·show 2 ≤ (joinV 58 ((gs.take p.1).map shortV) ++ (58 :: 58 :: joinV 58 ((gs.drop (p.1 + p.2)).map shortV))).count 58
    rw [List.count_append, List.count_cons, List.count_cons]
    simp
    omega
 have hw := takeWhile_all sixB (print6V gs) hm.1
 unfold tokV
 rw [hw, if_pos hm.2]

end Go.Proofs.YtklipelnjgpnjaaGreatDoor
