import Derived.Test.YtghbbephhoniaaaGreatDoorLotP14
import Derived.Test.YtghbbephhoniaaaGreatDoorLotP11
import Derived.Test.YtghbbephhoniaaaGreatDoorSpC
import Derived.Test.YtghbbephhoniaaaGreatDoorLotP7
namespace Go.Proofs.YtghbbephhoniaaaGreatDoor
open Go.RowKit
set_option maxRecDepth 100000
theorem tok_hd {c : UInt8} {r : List UInt8} {x : Nat × List UInt8 × Nat} (h : tokV (c :: r) = .ok x) : blankB c = false := by
 cases hb : blankB c with
 | false => rfl
 | true =>
  obtain ⟨h1, h2, h3, h4, h5, h6⟩ := blank_not hb
  exfalso
  have hs : signV (c :: r) = [] := by
   unfold signV
   have h2' : ¬ ((c :: r).take 2 ∈ twosL) := by
    unfold blankB at hb
    simp only [Bool.or_eq_true, beq_iff_eq] at hb
    cases r with
    | nil => simp [twosL]
    | cons d r =>
     show ¬ ([c, d] ∈ twosL)
     simp only [twosL, List.mem_cons, List.not_mem_nil, or_false, List.cons.injEq, and_true]
     rcases hb with ((rfl | rfl) | rfl) | rfl <;> simp
   rw [if_neg h2', if_neg (by show ¬ onesL.contains c = true; rw [h6]; simp)]
  unfold tokV at h
  rw [List.takeWhile_cons_of_neg (by rw [h1]; simp), if_neg (by simp), if_neg (by show ¬ isDig c = true; rw [h4]; simp), if_neg (by show ¬ letB c = true; rw [h5]; simp), if_pos hs] at h
  cases h
def LexS (s : List UInt8) (ks : List Ky) (c : List UInt8 → Prop) : Prop := ∀ (p : Nat) (r : List UInt8) (us : List Tk), c r → lexR (p + s.length) r = .ok us → ∃ A, lexR p (s ++ r) = .ok (A ++ us) ∧ A.map Tk.ky = ks
theorem LexS.mono {s : List UInt8} {ks : List Ky} {c d : List UInt8 → Prop} (h : LexS s ks c) (hc : ∀ r, d r → c r) : LexS s ks d := fun p r us hr hu => h p r us (hc r hr) hu
theorem LexS.app {s t : List UInt8} {ks ls : List Ky} {c d : List UInt8 → Prop} (h1 : LexS s ks c) (h2 : LexS t ls d) (hc : ∀ r, d r → c (t ++ r)) : LexS (s ++ t) (ks ++ ls) d := fun p r us hr hu => by
 obtain ⟨B, b1, b2⟩ := h2 (p + s.length) r us hr (by rw [Nat.add_assoc, ← List.length_append]; exact hu)
 obtain ⟨A, a1, a2⟩ := h1 p (t ++ r) (B ++ us) (hc r hr) b1
 exact ⟨A ++ B, by rw [List.append_assoc, a1, List.append_assoc], by rw [List.map_append, a2, b2]⟩
theorem lexs_tok {k : Ky} {c : List UInt8 → Prop} (h : ∀ r, c r → tokV (k.2.1 ++ r) = .ok (k.1, k.2.1, k.2.2)) : LexS k.2.1 [k] c := fun p r us hr hu => by
 have ht := h r hr
 have hne := (tok_ok ht).1
 cases hk : k.2.1 with
 | nil => exact absurd hk hne
 | cons c0 r0 =>
  rw [hk, List.cons_append] at ht
  rw [hk] at hu
  refine ⟨[⟨k.1, p, k.2.1, k.2.2⟩], ?_, rfl⟩
  rw [List.cons_append, lexR_tok p (tok_hd ht) ht, ← List.cons_append, List.drop_left, hu, hk]
  rfl
def EndS (r : List UInt8) : Prop := r = [] ∨ ∃ b r', r = b :: r' ∧ b ∈ [32, 41, 93, 45, 47, 91]
theorem end_bits {b : UInt8} (h : b ∈ [32, 41, 93, 45, 47, 91]) : sixB b = false ∧ quadB b = false ∧ wordB b = false ∧ ∀ c, ¬ ([c, b] ∈ twosL) := by
 simp only [List.mem_cons, List.not_mem_nil, or_false] at h
 rcases h with rfl | rfl | rfl | rfl | rfl | rfl <;> exact ⟨by decide, by decide, by decide, fun c => by simp [twosL]⟩
theorem spsign_two {t : List UInt8} {b : UInt8} (ht : t ≠ []) (h : ∀ c, ¬ ([c, b] ∈ twosL)) (r : List UInt8) : signV (t ++ b :: r) = signV t := by
 cases t with
 | nil => exact absurd rfl ht
 | cons c t =>
  cases t with
  | nil =>
   have h2 : ¬ ([c].take 2 ∈ twosL) := by simp [twosL]
   unfold signV
   rw [if_neg (show ¬ (([c] ++ b :: r).take 2 ∈ twosL) from h c), if_neg h2]
   rfl
  | cons d t => rfl
theorem sphead_app {t : List UInt8} (ht : t ≠ []) (r : List UInt8) : (t ++ r).head? = t.head? := by
 cases t with
 | nil => exact absurd rfl ht
 | cons c t => rfl
theorem tok_s {t r : List UInt8} (ht : t ≠ []) (h : EndS r) : tokV (t ++ r) = tokV t := by
 rcases h with rfl | ⟨b, r', rfl, hb⟩
 ·rw [List.append_nil]
 ·obtain ⟨b1, b2, b3, b4⟩ := end_bits hb
  have hb : ∀ p : UInt8 → Bool, p b = false → (t ++ b :: r').takeWhile p = t.takeWhile p := fun p hp => takeWhile_end p t _ (.inr ⟨b, r', rfl, hp⟩)
  unfold tokV
  rw [hb sixB b1, hb quadB b2, hb wordB b3, sphead_app ht, spsign_two ht b4]
theorem lexs_wordS {x : List UInt8} (h : tokV x = .ok (2, x, 0)) : LexS x [kW x] EndS :=
 lexs_tok (k := kW x) fun _ hr => (tok_s (tok_ok h).1 hr).trans h
theorem dig_six {c : UInt8} (h : isDig c = true) : c ≠ 58 ∧ c ≠ 46 ∧ wordB c = true ∧ quadB c = true ∧ c ≠ 120 := by
 refine ⟨?_, ?_, ?_, ?_, ?_⟩
 ·rintro rfl; revert h; decide
 ·rintro rfl; revert h; decide
 ·unfold wordB; rw [h]; rfl
 ·unfold quadB; rw [h]; rfl
 ·rintro rfl; revert h; decide
theorem tok_dec {n : Nat} (h : n ≤ 4294967295) : tokV (dec n) = .ok (1, dec n, n) := by
 have h20 : n < 10 ^ 20 := by omega
 have hd := dec_dig n h20
 have hne := dec_ne n h20
 have hv := numberV_dec 4294967295 n h h20
 generalize dec n = s at *
 have hc : ¬ 2 ≤ (s.takeWhile sixB).count 58 := by
  have : (s.takeWhile sixB).count 58 = 0 := List.count_eq_zero.2 (fun hm => (dig_six (hd _ ((List.takeWhile_sublist _).subset hm))).1 rfl)
  omega
 have h46 : ¬ 46 ∈ s.takeWhile quadB := fun hm => (dig_six (hd _ ((List.takeWhile_sublist _).subset hm))).2.1 rfl
 have hw : s.takeWhile wordB = s := takeWhile_all wordB s (fun x hx => (dig_six (hd x hx)).2.2.1)
 have hh : s.head?.any isDig = true := by
  cases s with
  | nil => exact absurd rfl hne
  | cons c r => exact hd c (List.mem_cons_self ..)
 have hn : numV s = some n := by
  unfold numV
  rw [if_neg ?_]
  ·exact hv
  ·rintro ⟨h2, -, hx⟩
   match s, h2, hx with
   | a :: b :: r, _, hx =>
    have hx : b = 120 := hx
    exact (dig_six (hd b (by simp))).2.2.2.2 hx
 unfold tokV
 rw [if_neg hc, if_pos hh, if_neg h46, hw, hn]
theorem tree_parse (full : Bool) {T : Tr} (hg : T.Good) (hd : (T.txt full).2 ≤ 200) {A : List Tk} {e : Tk} (he : e.kind = 0) (hA : A.map Tk.ky = T.ky full) : ∃ ns, parseT (A ++ [e]) = .ok ns ∧ ns.map (·.1.g) = T.flat := by
 obtain ⟨F, ns, h1, h2⟩ := (tree_read full T hg).1 1 0 A [e] (Nat.le_refl _) row_ge (by omega) hA (stop_b (stop_end he []))
 refine ⟨ns, ?_, h2⟩
 have h3 := more_row (Nat.le_max_left F (needF 1 (A ++ [e]))) h1
 have h4 := row_more (Nat.le_max_right F (needF 1 (A ++ [e]))) (row_told _ 1 0 _ (by decide) (Nat.le_refl _))
 unfold parseT
 rw [← h4, h3, thenE_ok]
 exact if_pos he
theorem LexS.cast {s s' : List UInt8} {ks ks' : List Ky} {c : List UInt8 → Prop} (h : LexS s ks c) (hs : s = s') (hk : ks = ks') : LexS s' ks' c := by
 subst hs hk
 exact h
def nmN (a : Nat) : Ng := ⟨1, 0, a, 0, 0, 0, 0, zeros 16, 0⟩
def akN (k : Int) : Ng := ⟨4, k, 0, 0, 0, 0, 0, zeros 16, 0⟩
def lnN : Ng := ⟨2, 0, 0, 0, 0, 0, 0, zeros 16, 0⟩
def cp (v : Nat) : Pt := ⟨false, true, v⟩
theorem step_nm (a : Nat) (st : List Pt) : stepG (nmN a) st = .ok (st ++ [cp a]) := by
 have hf : formG (nmN a) = true := by simp [formG, sameG, useG, mayG, nmN]
 have h0 : faultG (nmN a) [] = 0 := by unfold faultG; rw [hf]; rfl
 rw [stepG_good (a := 0) rfl (by omega) (by simpa using h0)]
 simp [joinG, valG, nmN, cp, truthG]
theorem step_ln (st : List Pt) : stepG lnN st = .ok (st ++ [⟨false, false, 0⟩]) := by
 have h0 : faultG lnN [] = 0 := by kernel_rfl
 rw [stepG_good (a := 0) rfl (by omega) (by simpa using h0)]
 simp [joinG, valG, lnN, truthG]
theorem form_ak {k : Int} (hk : 1 ≤ k ∧ k ≤ 10) : formG (akN k) = true := by simp [formG, sameG, useG, mayG, akN, inG, hk.1, hk.2]
end Go.Proofs.YtghbbephhoniaaaGreatDoor
