/-
  What is said of an address's text: no needless nought, '::' once at most: no Go text here.
-/
import Derived.Test.YtbklagdegnflgaaDoorAddrS
import Derived.Test.YtbklagdegnflgaaDoorAddrD
namespace Go.Proofs.YtbklagdegnflgaaDoor
open Go.RowKit
set_option maxRecDepth 100000

/-- No needless nought, from a place on; pv the letter ahead. -/
def badT (pv : Option UInt8) (c : UInt8) (nx : Option UInt8) : Bool := (pv == none || pv == some 58) && (c == 48 && (nx.isSome && nx != some 58))
def okT : Option UInt8 → List UInt8 → Bool
  | _, [] => true
  | pv, c :: r => !badT pv c r.head? && okT (some c) r
/-- How often '::' stands there. -/
def gapsT : Option UInt8 → List UInt8 → Nat
  | _, [] => 0
  | pv, c :: r => (if pv = some 58 ∧ c = 58 then 1 else 0) + gapsT (some c) r

/-- The last letter, or what was ahead. -/
def endO : Option UInt8 → List UInt8 → Option UInt8
  | p, [] => p
  | _, c :: x => endO (some c) x
theorem end_some (x : List UInt8) (c : UInt8) (h : 58 ∉ x) (hc : c ≠ 58) : ∃ q : UInt8, q ≠ 58 ∧ endO (some c) x = some q := by
  induction x generalizing c with
  | nil => exact ⟨c, hc, rfl⟩
  | cons y x ih => exact ih y (fun e => h (by simp [e])) (fun e => h (by simp [e]))
theorem end_piece (x : List UInt8) (p : Option UInt8) (h : piece x) : ∃ q : UInt8, q ≠ 58 ∧ endO p x = some q := by
  cases x with
  | nil => exact absurd rfl h.2.1
  | cons c x => exact end_some x c (fun e => h.1 (by simp [e])) (fun e => h.1 (by simp [e]))

/-- Through the rest of a piece. -/
theorem okT_in (x r : List UInt8) (p : UInt8) (h : 58 ∉ x) (hp : p ≠ 58) : okT (some p) (x ++ r) = okT (endO (some p) x) r := by
  induction x generalizing p with
  | nil => rfl
  | cons c x ih =>
    have hc : c ≠ 58 := fun e => h (by simp [e])
    rw [List.cons_append, okT]
    have hb : badT (some p) c (x ++ r).head? = false := by
      unfold badT
      have : (some p == none || some p == some (58 : UInt8)) = false := by
        have h1 : (some p == some (58 : UInt8)) = false := by
          rw [beq_eq_false_iff_ne]
          exact fun e => hp (Option.some.inj e)
        rw [h1]; rfl
      rw [this]; rfl
    rw [hb, ih c (fun e => h (by simp [e])) hc]
    rfl

theorem okT_piece (pv : Option UInt8) (x r : List UInt8) (h : piece x) (hr : r = [] ∨ r.head? = some 58) : okT pv (x ++ r) = okT (endO pv x) r := by
  obtain ⟨p1, p2, -, p4⟩ := h
  cases x with
  | nil => exact absurd rfl p2
  | cons c x =>
    have hc : c ≠ 58 := fun e => p1 (by simp [e])
    rw [List.cons_append, okT]
    have hb : badT pv c (x ++ r).head? = false := by
      unfold badT
      by_cases h48 : c = 48
      · subst h48
        have hl := p4 rfl
        have hx : x = [] := List.eq_nil_of_length_eq_zero (by simp only [List.length_cons] at hl; omega)
        subst hx
        rcases hr with hr | hr
        · subst hr; simp
        · rw [List.nil_append, hr]; simp
      · have : (c == 48) = false := by simpa using h48
        rw [this]; simp
    rw [hb, okT_in x r c (fun e => p1 (by simp [e])) hc]
    rfl

theorem okT_colon (p : Option UInt8) (r : List UInt8) : okT p (58 :: r) = okT (some 58) r := by
  rw [okT]
  have : badT p 58 r.head? = false := by unfold badT; simp
  rw [this]; simp

theorem gapsT_in (x r : List UInt8) (p : Option UInt8) (h : 58 ∉ x) : gapsT p (x ++ r) = gapsT (endO p x) r := by
  induction x generalizing p with
  | nil => rfl
  | cons c x ih =>
    have hc : c ≠ 58 := fun e => h (by simp [e])
    rw [List.cons_append, gapsT, if_neg (fun e => hc e.2), ih (some c) (fun e => h (by simp [e])), Nat.zero_add]
    rfl

/-- Joined pieces, with something behind. -/
theorem join_ok (ls : List (List UInt8)) (h : ∀ l ∈ ls, piece l) (pv : Option UInt8) (r : List UInt8) (hr : r = [] ∨ r.head? = some 58) (hne : ls ≠ []) :
    ∃ q : UInt8, q ≠ 58 ∧ okT pv (joinV 58 ls ++ r) = okT (some q) r ∧ gapsT pv (joinV 58 ls ++ r) = gapsT (some q) r := by
  induction ls generalizing pv with
  | nil => exact absurd rfl hne
  | cons x ls ih =>
    have hx := h x (by simp)
    obtain ⟨y0, y1, y2⟩ := end_piece x pv hx
    cases ls with
    | nil =>
      rw [joinV_one]
      exact ⟨y0, y1, by rw [okT_piece pv x r hx hr, y2], by rw [gapsT_in x r pv hx.1, y2]⟩
    | cons y ls =>
      obtain ⟨q, q1, q2, q4⟩ := ih (fun l hl => h l (by simp only [List.mem_cons] at hl ⊢; exact .inr hl)) (some 58) (by simp)
      refine ⟨q, q1, ?_, ?_⟩
      · rw [joinV_cons, List.append_assoc, okT_piece pv x _ hx (.inr rfl), List.cons_append, okT_colon]
        exact q2
      · rw [joinV_cons, List.append_assoc, gapsT_in x _ pv hx.1, y2, List.cons_append, gapsT, if_neg (fun e => y1 (Option.some.inj e.1)), Nat.zero_add]
        exact q4

theorem short_pieces (zs : List Nat) : ∀ l ∈ zs.map shortV, piece l := fun l hl => by
  obtain ⟨g, -, rfl⟩ := List.mem_map.1 hl
  exact short_piece g

/-- The text of an address. -/
theorem text_ok (gs : List Nat) (h8 : gs.length = 8) : okT none (print6V gs) = true ∧ gapsT none (print6V gs) = if (bestF 0 gs none).isSome = true then 1 else 0 := by
  unfold print6V
  cases hb : bestF 0 gs none with
  | none =>
    simp only [Option.isSome_none, Bool.false_eq_true, if_false]
    obtain ⟨q, -, q2, q4⟩ := join_ok (gs.map shortV) (short_pieces gs) none [] (.inl rfl) (by intro e; have := congrArg List.length e; simp at this; rw [this] at h8; simp at h8)
    rw [List.append_nil] at q2 q4
    exact ⟨by rw [q2]; rfl, by rw [q4]; rfl⟩
  | some p =>
    simp only [Option.isSome_some, if_true]
    have tail : ∀ zs : List Nat, okT (some 58) (joinV 58 (zs.map shortV)) = true ∧ gapsT (some 58) (joinV 58 (zs.map shortV)) = 0 := fun zs => by
      cases zs with
      | nil => exact ⟨rfl, rfl⟩
      | cons z zs =>
        obtain ⟨q, -, q2, q4⟩ := join_ok ((z :: zs).map shortV) (short_pieces _) (some 58) [] (.inl rfl) (by simp)
        rw [List.append_nil] at q2 q4
        exact ⟨by rw [q2]; rfl, by rw [q4]; rfl⟩
    have mid : ∀ (pv : Option UInt8) (zs : List Nat), pv ≠ some 58 → okT pv (58 :: 58 :: joinV 58 (zs.map shortV)) = true ∧ gapsT pv (58 :: 58 :: joinV 58 (zs.map shortV)) = 1 := fun pv zs hp => by
      refine ⟨by rw [okT_colon, okT_colon]; exact (tail zs).1, ?_⟩
      rw [gapsT, gapsT, if_neg (fun e => hp e.1), if_pos ⟨rfl, rfl⟩, (tail zs).2]
    cases hz : (gs.take p.1) with
    | nil => exact mid none _ (by simp)
    | cons z zs =>
      obtain ⟨q, q1, q2, q4⟩ := join_ok ((z :: zs).map shortV) (short_pieces _) none (58 :: 58 :: joinV 58 ((gs.drop (p.1 + p.2)).map shortV)) (.inr rfl) (by simp)
      have m := mid (some q) (gs.drop (p.1 + p.2)) (fun e => q1 (Option.some.inj e))
      exact ⟨by rw [q2]; exact m.1, by rw [q4]; exact m.2⟩

/-- Do two groups in a row be 0, up to a place? -/
def rowsTo (gs : List Nat) : Nat → Nat
  | 0 => 0
  | m + 1 => if gs[m]? = some 0 ∧ gs[m + 1]? = some 0 then 1 else rowsTo gs m

theorem best_keeps (gs : List Nat) (i : Nat) (p : Nat × Nat) : (bestF i gs (some p)).isSome = true := by
  induction gs generalizing i p with
  | nil => rfl
  | cons g r ih =>
    rw [bestF]
    split <;> exact ih _ _
theorem best_none (gs : List Nat) (i : Nat) (h : bestF i gs none = none) : ∀ k, k < gs.length → zrow (gs.drop k) ≤ 1 := by
  induction gs generalizing i with
  | nil => intro k hk; simp at hk
  | cons g r ih =>
    rw [bestF] at h
    split at h
    · have := best_keeps r (i + 1) (i, zrow (g :: r))
      rw [h] at this
      cases this
    · rename_i hz
      intro k hk
      cases k with
      | zero =>
        have : longOf none = 1 := rfl
        rw [List.drop_zero]
        omega
      | succ k => exact ih (i + 1) h k (by simpa using hk)

theorem rows_pos (gs : List Nat) (m : Nat) : rowsTo gs m = 0 ∨ rowsTo gs m = 1 := by
  induction m with
  | zero => exact .inl rfl
  | succ m ih => rw [rowsTo]; split; exact .inr rfl; exact ih
theorem rows_hit (gs : List Nat) (m j : Nat) (hj : j < m) (h1 : gs[j]? = some 0) (h2 : gs[j + 1]? = some 0) : rowsTo gs m = 1 := by
  induction m with
  | zero => omega
  | succ m ih =>
    rw [rowsTo]
    by_cases e : j = m
    · subst e; rw [if_pos ⟨h1, h2⟩]
    · split
      · rfl
      · exact ih (by omega)
theorem rows_miss (gs : List Nat) (m : Nat) (h : ∀ j, j < m → ¬ (gs[j]? = some 0 ∧ gs[j + 1]? = some 0)) : rowsTo gs m = 0 := by
  induction m with
  | zero => rfl
  | succ m ih => rw [rowsTo, if_neg (h m (by omega))]; exact ih (fun j hj => h j (by omega))

theorem rows_text (gs : List Nat) (h8 : gs.length = 8) : gapsT none (print6V gs) = rowsTo gs 7 := by
  rw [(text_ok gs h8).2]
  cases hb : bestF 0 gs none with
  | none =>
    have hz := best_none gs 0 hb
    rw [rows_miss]
    · rfl
    · intro j hj ⟨h1, h2⟩
      have hk := hz j (by omega)
      have hj1 : j < gs.length := by omega
      have hj2 : j + 1 < gs.length := by omega
      rw [List.getElem?_eq_getElem hj1] at h1
      rw [List.getElem?_eq_getElem hj2] at h2
      rw [List.drop_eq_getElem_cons hj1, List.drop_eq_getElem_cons hj2, zrow_cons, if_pos (Option.some.inj h1), zrow_cons, if_pos (Option.some.inj h2)] at hk
      omega
  | some p =>
    obtain ⟨b1, b2, b3⟩ := best_row gs p hb
    have hl : (gs.take p.1).length = p.1 := by rw [List.length_take]; omega
    have at0 : ∀ j, j < p.2 → gs[p.1 + j]? = some 0 := fun j hj => by
      rw [b3, List.append_assoc, List.getElem?_append_right (by omega), hl, show p.1 + j - p.1 = j by omega, List.getElem?_append_left (by simp; omega), List.getElem?_replicate, if_pos hj]
    rw [rows_hit gs 7 p.1 (by omega) (at0 0 (by omega)) (at0 1 (by omega))]
    rfl

/-- An address written out. -/
def fullTo (xs : List UInt8) : Nat → List UInt8
  | 0 => []
  | j + 1 => fullTo xs j ++ ((if (decide (0 < j) && j % 2 == 0) = true then [58] else []) ++ [hexD ((xs.getD j 0).toNat / 16), hexD ((xs.getD j 0).toNat % 16)])

theorem full_len (xs : List UInt8) (j : Nat) : (fullTo xs j).length ≤ 3 * j := by
  induction j with
  | zero => simp [fullTo]
  | succ j ih =>
    rw [fullTo, List.length_append, List.length_append]
    have : (if (decide (0 < j) && j % 2 == 0) = true then ([58] : List UInt8) else []).length ≤ 1 := by split <;> simp
    simp only [List.length_cons, List.length_nil]
    omega

theorem list16 : ∀ (xs : List UInt8), xs.length = 16 → ∃ a0 a1 a2 a3 a4 a5 a6 a7 a8 a9 a10 a11 a12 a13 a14 a15, xs = [a0, a1, a2, a3, a4, a5, a6, a7, a8, a9, a10, a11, a12, a13, a14, a15]
  | [a0, a1, a2, a3, a4, a5, a6, a7, a8, a9, a10, a11, a12, a13, a14, a15], _ => ⟨a0, a1, a2, a3, a4, a5, a6, a7, a8, a9, a10, a11, a12, a13, a14, a15, rfl⟩

set_option maxHeartbeats 1000000 in
theorem full_join (xs : List UInt8) (h : xs.length = 16) : fullTo xs 16 = joinV 58 ((pairsG xs).map fullV) := by
  obtain ⟨a0, a1, a2, a3, a4, a5, a6, a7, a8, a9, a10, a11, a12, a13, a14, a15, rfl⟩ := list16 xs h
  have e : (pairsG [a0, a1, a2, a3, a4, a5, a6, a7, a8, a9, a10, a11, a12, a13, a14, a15]).map fullV = [hexS [a0, a1], hexS [a2, a3], hexS [a4, a5], hexS [a6, a7], hexS [a8, a9], hexS [a10, a11], hexS [a12, a13], hexS [a14, a15]] := by
    show [256 * a0.toNat + a1.toNat, 256 * a2.toNat + a3.toNat, 256 * a4.toNat + a5.toNat, 256 * a6.toNat + a7.toNat, 256 * a8.toNat + a9.toNat, 256 * a10.toNat + a11.toNat, 256 * a12.toNat + a13.toNat, 256 * a14.toNat + a15.toNat].map fullV = _
    simp only [List.map_cons, List.map_nil, full_hex]
  rw [e]
  simp [fullTo, joinV, hexS]

theorem gap_plain (ls : List (List UInt8)) (h : ∀ l ∈ ls, 58 ∉ l ∧ l ≠ []) : gapV (joinV 58 ls) = none := by
  induction ls with
  | nil => rfl
  | cons x r ih =>
    obtain ⟨p1, p2⟩ := h x (by simp)
    cases r with
    | nil =>
      rw [joinV_one]
      have := gap_piece x [] p1
      rw [List.append_nil] at this
      rw [this]
      rfl
    | cons y r =>
      have hy := h y (by simp)
      have e2 := ih (fun l hl => h l (by simp only [List.mem_cons] at hl ⊢; exact .inr hl))
      have hh : (joinV 58 (y :: r)).head? ≠ some 58 := by
        obtain ⟨q1, q2⟩ := hy
        cases hyy : y with
        | nil => exact absurd hyy q2
        | cons c y' =>
          have hc : c ≠ 58 := fun e => q1 (by rw [hyy, e]; simp)
          rw [joinV]
          split <;> simpa using hc
      rw [joinV_cons, gap_piece x _ p1, gapV, if_neg (fun e => hh e.2), e2]
      rfl

theorem parse6_full (xs : List UInt8) (h : xs.length = 16) : parse6V (fullTo xs 16) = some xs := by
  have hl := pairs_len 8 xs (by omega)
  have hlt := pairs_lt xs
  rw [full_join xs h, parse6V, gap_plain _ (fun l hm => by
    obtain ⟨g, -, rfl⟩ := List.mem_map.1 hm
    exact ⟨full_no g, by simp [fullV]⟩)]
  simp only
  rw [groups_join fullV (pairsG xs) (by omega) (fun g _ => full_no g) (fun g _ => by simp [fullV]) (fun g hm => group_full g (hlt g hm))]
  simp only [Option.bind_some]
  rw [if_pos hl, bytes_pairs 8 xs (by omega)]

end Go.Proofs.YtbklagdegnflgaaDoor
