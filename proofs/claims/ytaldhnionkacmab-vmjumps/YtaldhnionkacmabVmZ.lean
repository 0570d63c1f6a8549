/-
  Programs of one jump: what they come to. No Go text here.
-/
import Derived.Test.YtaldhnionkacmabVmX
namespace Go.Proofs.Ytaldhnionkacmab
open Go.RowKit
set_option maxRecDepth 100000

def jumpP0 (a b c K : Nat) : List In := [mkV 1 0 0 b, mkV 0 0 0 a, mkV c 0 1 K, mkV 6 0 0 1, mkV 6 0 0 2]
def jumpPre (a b c K far : Nat) : List In := [mkV 1 0 0 b, mkV 0 0 0 a, mkV c far 0 K]
def jumpMid (a b c K far n : Nat) : List In := jumpPre a b c K far ++ mkV 5 0 0 far :: List.replicate n (mkV 6 0 0 77)
def jumpP (a b c K m : Nat) : List In := jumpMid a b c K (m + 1) m ++ [mkV 6 0 0 1, mkV 6 0 0 2]

theorem jump_good {c t f k n i : Nat} (hc : c ≤ 65535) (ht : t ≤ 255) (hff : f ≤ 255) (hk : k ≤ 4294967295) (h : faultV c k = 0) (h5 : ((c : Int) == 5) = false) (h1 : t < n - 1 - i) (h2 : f < n - 1 - i) : badV n i (mkV c t f k) = 0 := by
  refine bad_of ?_ ?_
  · rw [mkV_code hc, mkV_k hk]; exact h
  · rw [mkV_code hc, mkV_jt ht, mkV_jf hff, jumpBad, h5]
    simp only [Bool.false_and, Bool.false_or, Bool.and_eq_false_iff, Bool.or_eq_false_iff, decide_eq_false_iff_not]
    right
    exact ⟨by omega, by omega⟩

theorem ja_good {t f k n i : Nat} (hk : k ≤ 4294967295) (h1 : k < n - 1 - i) : badV n i (mkV 5 t f k) = 0 := by
  refine bad_of ?_ ?_
  · rw [mkV_code (by omega), mkV_k hk]; exact (fault_imm k).2.2.2
  · rw [mkV_code (by omega), mkV_k hk, jumpBad, show jumpB ((5 : Nat) : Int) = false by decide]
    simp only [Bool.false_and, Bool.or_false, Bool.and_eq_false_iff, decide_eq_false_iff_not]
    right
    omega

theorem runF_mkJ {xs : List In} {pk : List UInt8} {n j c t f k : Nat} {M : Mc} {q : Bool} (hx : xs[j]? = some (mkV c t f k)) (hc : c ≤ 65535) (ht : t ≤ 255) (hf : f ≤ 255) (hk : k ≤ 4294967295) (hr : retB c = false) (h5 : ((c : Int) == 5) = false) (hj : jumpB c = true) (hq : holdsV (bits .andNot .u16 (c : Int) 8) M.a (sideV c k M.x) = q) :
    runF xs pk (n + 1) j M = hdV j (runF xs pk n (j + 1 + if q = true then t else f) M) := by
  obtain ⟨hl, e⟩ := List.getElem?_eq_some_iff.1 hx
  have ec : xs[j].code.toNat = c := by rw [e]; exact mkV_code hc
  have ek : xs[j].k.toNat = k := by rw [e]; exact mkV_k hk
  have et : xs[j].jt.toNat = t := by rw [e]; exact mkV_jt ht
  have ef : xs[j].jf.toNat = f := by rw [e]; exact mkV_jf hf
  have h6 : ((c : Int) == 6) = false ∧ ((c : Int) == 22) = false := by
    simp only [retB, Bool.or_eq_false_iff] at hr
    exact hr
  rw [runF_jump hl (by rw [ec]; exact h6.1) (by rw [ec]; exact h6.2) (by rw [ec]; exact h5) (by rw [ec]; exact hj), goalV, asksV, ec, ek, et, ef, hq]

theorem runF_mkJa {xs : List In} {pk : List UInt8} {n j t f k : Nat} {M : Mc} (hx : xs[j]? = some (mkV 5 t f k)) (hk : k ≤ 4294967295) : runF xs pk (n + 1) j M = hdV j (runF xs pk n (j + 1 + k) M) := by
  obtain ⟨hl, e⟩ := List.getElem?_eq_some_iff.1 hx
  have ec : xs[j].code.toNat = 5 := by rw [e]; exact mkV_code (by omega)
  have ek : xs[j].k.toNat = k := by rw [e]; exact mkV_k hk
  rw [runF_ja hl (by rw [ec]; decide) (by rw [ec]; decide) (by rw [ec]; decide), ek]

theorem jump0_run {a b c K : Nat} {q : Bool} (ha : a ≤ 4294967295) (hb : b ≤ 4294967295) (hK : K ≤ 4294967295) (hc : c ≤ 255) (hf : faultV c K = 0) (h5 : ((c : Int) == 5) = false) (hj : jumpB c = true) (hr : retB c = false)
    (hq : holdsV (bits .andNot .u16 (c : Int) 8) a (sideV c K b) = q) : runE (jumpP0 a b c K) [] = 0 ∧ (runV (jumpP0 a b c K) []).1 = if q = true then 1 else 2 := by
  have hE : runE (jumpP0 a b c K) [] = 0 := by
    rw [runE, taken_of (by simp [jumpP0]) (by simp [jumpP0]) (fun j hj => ?_) (by rfl)]
    · rfl
    · simp only [jumpP0, List.length_cons, List.length_nil] at hj
      rcases (show j = 0 ∨ j = 1 ∨ j = 2 ∨ j = 3 ∨ j = 4 by omega) with rfl | rfl | rfl | rfl | rfl
      · exact plain_good (by omega) hb (fault_imm b).2.1 (by decide) (by decide)
      · exact plain_good (by omega) ha (fault_imm a).1 (by decide) (by decide)
      · exact jump_good (by omega) (by omega) (by omega) hK hf h5 (by simp [jumpP0]) (by simp [jumpP0])
      · exact plain_good (by omega) (by omega) (fault_imm 1).2.2.1 (by decide) (by decide)
      · exact plain_good (by omega) (by omega) (fault_imm 2).2.2.1 (by decide) (by decide)
  refine ⟨hE, ?_⟩
  rw [runV, if_pos hE, show (jumpP0 a b c K).length = 5 by rfl]
  have e0 : stepV ((1 : Nat) : Int) b [] mc0 = (⟨0, b, mc0.m⟩, 0) := by simp [stepV, mc0]
  have e1 : stepV ((0 : Nat) : Int) a [] ⟨0, b, mc0.m⟩ = (⟨a, b, mc0.m⟩, 0) := by simp [stepV]
  rw [runF_mk (c := 1) (k := b) rfl (by omega) hb (by decide) (by decide) (by decide) e0, if_pos rfl,
    runF_mk (c := 0) (k := a) rfl (by omega) ha (by decide) (by decide) (by decide) e1, if_pos rfl,
    runF_mkJ (c := c) (t := 0) (f := 1) (k := K) (q := q) rfl (by omega) (by omega) (by omega) hK hr h5 hj hq]
  cases q with
  | true => rw [if_pos rfl, if_pos rfl, runF_mkK (t := 0) (f := 0) (k := 1) rfl (by omega)]; rfl
  | false => rw [if_neg (by simp), if_neg (by simp), runF_mkK (t := 0) (f := 0) (k := 2) rfl (by omega)]; rfl

theorem jumpP_len (a b c K m : Nat) : (jumpP a b c K m).length = m + 6 := by simp [jumpP, jumpMid, jumpPre]

theorem jumpP_at (a b c K m : Nat) : (jumpP a b c K m)[0]? = some (mkV 1 0 0 b) ∧ (jumpP a b c K m)[1]? = some (mkV 0 0 0 a) ∧ (jumpP a b c K m)[2]? = some (mkV c (m + 1) 0 K) ∧ (jumpP a b c K m)[3]? = some (mkV 5 0 0 (m + 1)) ∧ (∀ i, i < m → (jumpP a b c K m)[4 + i]? = some (mkV 6 0 0 77)) ∧
    (jumpP a b c K m)[4 + m]? = some (mkV 6 0 0 1) ∧ (jumpP a b c K m)[5 + m]? = some (mkV 6 0 0 2) := by
  refine ⟨rfl, rfl, rfl, rfl, fun i hi => ?_, ?_, ?_⟩
  · rw [show 4 + i = i + 1 + 1 + 1 + 1 by omega]
    simp only [jumpP, jumpMid, jumpPre, List.cons_append, List.nil_append, List.getElem?_cons_succ]
    rw [List.getElem?_append_left (by simpa using hi), List.getElem?_replicate, if_pos hi]
  · rw [show 4 + m = m + 1 + 1 + 1 + 1 by omega]
    simp only [jumpP, jumpMid, jumpPre, List.cons_append, List.nil_append, List.getElem?_cons_succ]
    rw [List.getElem?_append_right (by simp)]
    simp
  · rw [show 5 + m = m + 1 + 1 + 1 + 1 + 1 by omega]
    simp only [jumpP, jumpMid, jumpPre, List.cons_append, List.nil_append, List.getElem?_cons_succ]
    rw [List.getElem?_append_right (by simp)]
    simp

theorem jumpP_run {a b c K m : Nat} {q : Bool} (ha : a ≤ 4294967295) (hb : b ≤ 4294967295) (hK : K ≤ 4294967295) (hm : m ≤ 254) (hc : c ≤ 255) (hf : faultV c K = 0) (h5 : ((c : Int) == 5) = false) (hj : jumpB c = true) (hr : retB c = false)
    (hq : holdsV (bits .andNot .u16 (c : Int) 8) a (sideV c K b) = q) : runE (jumpP a b c K m) [] = 0 ∧ (runV (jumpP a b c K m) []).1 = if q = true then 1 else 2 := by
  obtain ⟨g0, g1, g2, g3, g4, g5, g6⟩ := jumpP_at a b c K m
  have hlen := jumpP_len a b c K m
  have get : ∀ (j : Nat) (hj : j < (jumpP a b c K m).length) (x : In), (jumpP a b c K m)[j]? = some x → (jumpP a b c K m)[j] = x := fun j hj x h => (List.getElem?_eq_some_iff.1 h).2
  have hT : checkV (jumpP a b c K m) = (0, 0) := by
    refine taken_of (by omega) (by omega) (fun j hj => ?_) ?_
    · by_cases j0 : j = 0
      · subst j0; rw [get _ hj _ g0]; exact plain_good (by omega) hb (fault_imm b).2.1 (by decide) (by decide)
      by_cases j1 : j = 1
      · subst j1; rw [get _ hj _ g1]; exact plain_good (by omega) ha (fault_imm a).1 (by decide) (by decide)
      by_cases j2 : j = 2
      · subst j2; rw [get _ hj _ g2]; exact jump_good (by omega) (by omega) (by omega) hK hf h5 (by omega) (by omega)
      by_cases j3 : j = 3
      · subst j3; rw [get _ hj _ g3]; exact ja_good (by omega) (by omega)
      by_cases j4 : j < 4 + m
      · obtain ⟨i, rfl⟩ : ∃ i, j = 4 + i := ⟨j - 4, by omega⟩
        rw [get _ hj _ (g4 i (by omega))]; exact plain_good (by omega) (by omega) (fault_imm 77).2.2.1 (by decide) (by decide)
      by_cases j5 : j = 4 + m
      · subst j5; rw [get _ hj _ g5]; exact plain_good (by omega) (by omega) (fault_imm 1).2.2.1 (by decide) (by decide)
      · obtain rfl : j = 5 + m := by omega
        rw [get _ hj _ g6]; exact plain_good (by omega) (by omega) (fault_imm 2).2.2.1 (by decide) (by decide)
    · rw [lastB, List.getLast?_eq_getElem?, hlen, show m + 6 - 1 = 5 + m by omega, g6]
      decide
  have hE : runE (jumpP a b c K m) [] = 0 := by rw [runE, hT]; rfl
  refine ⟨hE, ?_⟩
  rw [runV, if_pos hE, hlen, show m + 6 = m + 1 + 1 + 1 + 1 + 1 + 1 by omega]
  have e0 : stepV ((1 : Nat) : Int) b [] mc0 = (⟨0, b, mc0.m⟩, 0) := by simp [stepV, mc0]
  have e1 : stepV ((0 : Nat) : Int) a [] ⟨0, b, mc0.m⟩ = (⟨a, b, mc0.m⟩, 0) := by simp [stepV]
  rw [runF_mk (c := 1) (k := b) g0 (by omega) hb (by decide) (by decide) (by decide) e0, if_pos rfl,
    runF_mk (c := 0) (k := a) g1 (by omega) ha (by decide) (by decide) (by decide) e1, if_pos rfl,
    runF_mkJ (c := c) (q := q) g2 (by omega) (by omega) (by omega) hK hr h5 hj hq]
  cases q with
  | true => rw [if_pos rfl, if_pos rfl, runF_mkK (t := 0) (f := 0) (k := 1) (by rw [show 0 + 1 + 1 + 1 + (m + 1) = 4 + m by omega]; exact g5) (by omega)]; rfl
  | false => rw [if_neg (by simp), if_neg (by simp), runF_mkJa (t := 0) (f := 0) (k := m + 1) g3 (by omega), runF_mkK (t := 0) (f := 0) (k := 2) (by rw [show 0 + 1 + 1 + 1 + 0 + 1 + (m + 1) = 5 + m by omega]; exact g6) (by omega)]; rfl

def jopsL : List Nat := [21, 37, 53, 69]
def jwantL (a b : Nat) : List Bool := [a == b, decide (b < a), decide (b ≤ a), (a &&& b) != 0]

theorem jop_side : byxB 21 = false ∧ byxB 37 = false ∧ byxB 53 = false ∧ byxB 69 = false ∧ byxB 29 = true ∧ byxB 45 = true ∧ byxB 61 = true ∧ byxB 77 = true := by decide +kernel
theorem jop_or : bits .or .u16 21 8 = 29 ∧ bits .or .u16 37 8 = 45 ∧ bits .or .u16 53 8 = 61 ∧ bits .or .u16 69 8 = 77 := by decide +kernel

/-- What each of the four questions is, with K and with X. -/
theorem jop_all {a b K : Nat} : ∀ (i op : Nat) (q : Bool), jopsL[i]? = some op → (jwantL a b)[i]? = some q →
    op ≤ 127 ∧ bits .or .u16 (op : Int) 8 = ((op + 8 : Nat) : Int) ∧ (∀ k, faultV op k = 0 ∧ faultV ((op + 8 : Nat) : Int) k = 0) ∧ ((op : Int) == 5) = false ∧ (((op + 8 : Nat) : Int) == 5) = false ∧ jumpB op = true ∧ jumpB ((op + 8 : Nat) : Int) = true ∧ retB op = false ∧ retB ((op + 8 : Nat) : Int) = false ∧
    holdsV (bits .andNot .u16 (op : Int) 8) a (sideV op b b) = q ∧ holdsV (bits .andNot .u16 ((op + 8 : Nat) : Int) 8) a (sideV ((op + 8 : Nat) : Int) K b) = q := by
  intro i op q h hw
  obtain ⟨s1, s2, s3, s4, s5, s6, s7, s8⟩ := jop_side
  obtain ⟨o1, o2, o3, o4⟩ := jop_or
  obtain ⟨n1, n2, n3, n4, n5, n6, n7, n8⟩ := andnot_jmp
  have hi := (List.getElem?_eq_some_iff.1 h).1
  simp only [jopsL, List.length_cons, List.length_nil] at hi
  rcases (show i = 0 ∨ i = 1 ∨ i = 2 ∨ i = 3 by omega) with rfl | rfl | rfl | rfl
  all_goals
    simp only [jopsL, List.getElem?_cons_succ, List.getElem?_cons_zero, Option.some.injEq] at h
    simp only [jwantL, List.getElem?_cons_succ, List.getElem?_cons_zero, Option.some.injEq] at hw
    subst h
    subst hw
  · exact ⟨by omega, o1, fun k => ⟨by simp [faultV, memB, divB, shfB, show knownB 21 = true by decide], by simp [faultV, memB, divB, shfB, show knownB 29 = true by decide]⟩, by decide, by decide, by decide, by decide, by decide, by decide, by simp [n1, holdsV, sideV, s1], by simp [n2, holdsV, sideV, s5]⟩
  · exact ⟨by omega, o2, fun k => ⟨by simp [faultV, memB, divB, shfB, show knownB 37 = true by decide], by simp [faultV, memB, divB, shfB, show knownB 45 = true by decide]⟩, by decide, by decide, by decide, by decide, by decide, by decide, by simp [n3, holdsV, sideV, s2], by simp [n4, holdsV, sideV, s6]⟩
  · exact ⟨by omega, o3, fun k => ⟨by simp [faultV, memB, divB, shfB, show knownB 53 = true by decide], by simp [faultV, memB, divB, shfB, show knownB 61 = true by decide]⟩, by decide, by decide, by decide, by decide, by decide, by decide, by simp [n5, holdsV, sideV, s3], by simp [n6, holdsV, sideV, s7]⟩
  · exact ⟨by omega, o4, fun k => ⟨by simp [faultV, memB, divB, shfB, show knownB 69 = true by decide], by simp [faultV, memB, divB, shfB, show knownB 77 = true by decide]⟩, by decide, by decide, by decide, by decide, by decide, by decide, by simp [n7, holdsV, sideV, s4], by simp [n8, holdsV, sideV, s8]⟩

end Go.Proofs.Ytaldhnionkacmab
