/-
  Straight programs: what they come to. No Go text here.
-/
import Derived.Test.YtaldhnionkacmabVmU
import Derived.Test.YtaldhnionkacmabCheckM
namespace Go.Proofs.Ytaldhnionkacmab
open Go.RowKit
set_option maxRecDepth 100000

theorem u32_nat {n : Nat} (h : n ≤ 4294967295) : (UInt32.ofNat n).toNat = n := by simp; omega
theorem u16_nat {n : Nat} (h : n ≤ 65535) : (UInt16.ofNat n).toNat = n := by simp; omega
theorem u8_nat {n : Nat} (h : n ≤ 255) : (UInt8.ofNat n).toNat = n := by simp; omega

/-- An instruction of numbers. -/
def mkV (c t f k : Nat) : In := ⟨UInt16.ofNat c, UInt8.ofNat t, UInt8.ofNat f, UInt32.ofNat k⟩

theorem mkV_cells {c t f k : Nat} (hc : c ≤ 65535) (ht : t ≤ 255) (hf : f ≤ 255) (hk : k ≤ 4294967295) : (mkV c t f k).cells = [.int .u16 (c : Int), .int .u8 (t : Int), .int .u8 (f : Int), .int .u32 (k : Int)] := by
  simp only [In.cells, mkV, u16_nat hc, u8_nat ht, u8_nat hf, u32_nat hk]

theorem mkV_code {c t f k : Nat} (hc : c ≤ 65535) : (mkV c t f k).code.toNat = c := u16_nat hc
theorem mkV_jt {c t f k : Nat} (h : t ≤ 255) : (mkV c t f k).jt.toNat = t := u8_nat h
theorem mkV_jf {c t f k : Nat} (h : f ≤ 255) : (mkV c t f k).jf.toNat = f := u8_nat h
theorem mkV_k {c t f k : Nat} (h : k ≤ 4294967295) : (mkV c t f k).k.toNat = k := u32_nat h

/-- An instruction that goes straight on is good wherever it stands. -/
theorem plain_good {c t f k n i : Nat} (hc : c ≤ 65535) (hk : k ≤ 4294967295) (h : faultV c k = 0) (h5 : ((c : Int) == 5) = false) (hj : jumpB c = false) : badV n i (mkV c t f k) = 0 := by
  refine bad_of ?_ ?_
  · rw [mkV_code hc, mkV_k hk]; exact h
  · rw [mkV_code hc, jumpBad, h5, hj]; rfl

theorem fault_imm (k : Nat) : faultV 0 k = 0 ∧ faultV 1 k = 0 ∧ faultV 6 k = 0 ∧ faultV 5 k = 0 := by
  refine ⟨?_, ?_, ?_, ?_⟩ <;> simp [faultV, memB, divB, shfB, show knownB 0 = true by decide, show knownB 1 = true by decide, show knownB 6 = true by decide, show knownB 5 = true by decide]
theorem fault_mem (k : Nat) (h : k < 16) : faultV 2 k = 0 ∧ faultV 97 k = 0 := by
  have h' : ¬ 16 ≤ k := by omega
  refine ⟨?_, ?_⟩ <;> simp [faultV, memB, divB, shfB, show knownB 2 = true by decide, show knownB 97 = true by decide, h']
theorem fault_retA : faultV 22 0 = 0 := by decide
theorem fault_abs (k : Nat) : faultV 32 k = 0 ∧ faultV 40 k = 0 ∧ faultV 48 k = 0 ∧ faultV 64 k = 0 ∧ faultV 72 k = 0 ∧ faultV 80 k = 0 ∧ faultV 177 k = 0 := by
  refine ⟨?_, ?_, ?_, ?_, ?_, ?_, ?_⟩ <;> simp [faultV, memB, divB, shfB, show knownB 32 = true by decide, show knownB 40 = true by decide, show knownB 48 = true by decide, show knownB 64 = true by decide, show knownB 72 = true by decide, show knownB 80 = true by decide, show knownB 177 = true by decide]

/-- One round of a run over an instruction that goes straight on. -/
theorem runF_mk {xs : List In} {pk : List UInt8} {n j c t f k : Nat} {M M' : Mc} {fl : Int} (hx : xs[j]? = some (mkV c t f k)) (hc : c ≤ 65535) (hk : k ≤ 4294967295) (hr : retB c = false) (h5 : ((c : Int) == 5) = false) (hj : jumpB c = false) (hs : stepV c k pk M = (M', fl)) :
    runF xs pk (n + 1) j M = if fl = 0 then hdV j (runF xs pk n (j + 1) M') else (0, fl, [j]) := by
  obtain ⟨hl, e⟩ := List.getElem?_eq_some_iff.1 hx
  have ec : xs[j].code.toNat = c := by rw [e]; exact mkV_code hc
  have ek : xs[j].k.toNat = k := by rw [e]; exact mkV_k hk
  have h6 : ((c : Int) == 6) = false ∧ ((c : Int) == 22) = false := by
    simp only [retB, Bool.or_eq_false_iff] at hr
    exact hr
  rw [runF_step hl (by rw [ec]; exact h6.1) (by rw [ec]; exact h6.2) (by rw [ec]; exact h5) (by rw [ec]; exact hj), ec, ek, hs]

theorem runF_mkA {xs : List In} {pk : List UInt8} {n j t f k : Nat} {M : Mc} (hx : xs[j]? = some (mkV 22 t f k)) : runF xs pk (n + 1) j M = (M.a, 0, [j]) := by
  obtain ⟨hl, e⟩ := List.getElem?_eq_some_iff.1 hx
  have ec : xs[j].code.toNat = 22 := by rw [e]; exact mkV_code (by omega)
  exact runF_retA hl (by rw [ec]; decide) (by rw [ec]; decide)

theorem runF_mkK {xs : List In} {pk : List UInt8} {n j t f k : Nat} {M : Mc} (hx : xs[j]? = some (mkV 6 t f k)) (hk : k ≤ 4294967295) : runF xs pk (n + 1) j M = (k, 0, [j]) := by
  obtain ⟨hl, e⟩ := List.getElem?_eq_some_iff.1 hx
  have ec : xs[j].code.toNat = 6 := by rw [e]; exact mkV_code (by omega)
  have ek : xs[j].k.toNat = k := by rw [e]; exact mkV_k hk
  rw [runF_retK hl (by rw [ec]; decide), ek]

def opsL : List Nat := [12, 28, 44, 76, 92, 172, 108, 124, 60, 156]
def opsD : List Nat := [4, 20, 36, 68, 84, 164, 100, 116, 52, 148]
def wantL (a b : Nat) : List Nat := [(a + b) % 4294967296, (a + 4294967296 - b) % 4294967296, a * b % 4294967296, a ||| b, a &&& b, a ^^^ b, shiftV a b true, shiftV a b false, if b = 0 then 0 else a / b, if b = 0 then 0 else a % b]

def prog6 (a b s op : Nat) : List In := [mkV 0 0 0 b, mkV 2 0 0 s, mkV 0 0 0 a, mkV 97 0 0 s, mkV op 0 0 0, mkV 22 0 0 0]
def prog3 (a b d : Nat) : List In := [mkV 0 0 0 a, mkV d 0 0 b, mkV 22 0 0 0]

theorem prog6_run {a b s op v : Nat} {fl : Int} (ha : a ≤ 4294967295) (hb : b ≤ 4294967295) (hs : s < 16) (hop : op ≤ 255) (hf : faultV op 0 = 0) (h5 : ((op : Int) == 5) = false) (hj : jumpB op = false) (hr : retB op = false)
    (hst : ∀ m, stepV op 0 [] ⟨a, b, m⟩ = (⟨v, b, m⟩, fl)) :
    runE (prog6 a b s op) [] = 0 ∧ runV (prog6 a b s op) [] = if fl = 0 then (v, 0, [0, 1, 2, 3, 4, 5]) else (0, fl, [0, 1, 2, 3, 4]) := by
  have hE : runE (prog6 a b s op) [] = 0 := by
    rw [runE, taken_of (by simp [prog6]) (by simp [prog6]) (fun j hj => ?_) (by rfl)]
    · rfl
    · simp only [prog6, List.length_cons, List.length_nil] at hj
      rcases (show j = 0 ∨ j = 1 ∨ j = 2 ∨ j = 3 ∨ j = 4 ∨ j = 5 by omega) with rfl | rfl | rfl | rfl | rfl | rfl
      · exact plain_good (by omega) hb (fault_imm b).1 (by decide) (by decide)
      · exact plain_good (by omega) (by omega) (fault_mem s hs).1 (by decide) (by decide)
      · exact plain_good (by omega) ha (fault_imm a).1 (by decide) (by decide)
      · exact plain_good (by omega) (by omega) (fault_mem s hs).2 (by decide) (by decide)
      · exact plain_good (by omega) (by omega) hf h5 (by assumption)
      · exact plain_good (by omega) (by omega) fault_retA (by decide) (by decide)
  refine ⟨hE, ?_⟩
  rw [runV, if_pos hE, show (prog6 a b s op).length = 6 by rfl]
  have e0 : stepV ((0 : Nat) : Int) b [] mc0 = (⟨b, 0, mc0.m⟩, 0) := by simp [stepV, mc0]
  have e1 : stepV ((2 : Nat) : Int) s [] ⟨b, 0, mc0.m⟩ = (⟨b, 0, mc0.m.set s b⟩, 0) := by simp [stepV, Nat.mod_eq_of_lt hs]
  have e2 : stepV ((0 : Nat) : Int) a [] ⟨b, 0, mc0.m.set s b⟩ = (⟨a, 0, mc0.m.set s b⟩, 0) := by simp [stepV]
  have e3 : stepV ((97 : Nat) : Int) s [] ⟨a, 0, mc0.m.set s b⟩ = (⟨a, b, mc0.m.set s b⟩, 0) := by
    have : (mc0.m.set s b).getD s 0 = b := by rw [getD_set, if_pos ⟨rfl, by simpa [mc0] using hs⟩]
    rw [show stepV ((97 : Nat) : Int) s [] ⟨a, 0, mc0.m.set s b⟩ = (⟨a, (mc0.m.set s b).getD (s % 16) 0, mc0.m.set s b⟩, 0) by simp [stepV], Nat.mod_eq_of_lt hs, this]
  rw [runF_mk (c := 0) (k := b) rfl (by omega) hb (by decide) (by decide) (by decide) e0, if_pos rfl,
    runF_mk (c := 2) (k := s) rfl (by omega) (by omega) (by decide) (by decide) (by decide) e1, if_pos rfl,
    runF_mk (c := 0) (k := a) rfl (by omega) ha (by decide) (by decide) (by decide) e2, if_pos rfl,
    runF_mk (c := 97) (k := s) rfl (by omega) (by omega) (by decide) (by decide) (by decide) e3, if_pos rfl,
    runF_mk (c := op) (k := 0) rfl (by omega) (by omega) hr h5 hj (hst _)]
  by_cases hfl : fl = 0
  · rw [if_pos hfl, if_pos hfl, runF_mkA (t := 0) (f := 0) (k := 0) rfl]
    rfl
  · rw [if_neg hfl, if_neg hfl]
    rfl

theorem prog3_run {a b d v : Nat} (ha : a ≤ 4294967295) (hb : b ≤ 4294967295) (hd : d ≤ 255) (hf : faultV d b = 0) (h5 : ((d : Int) == 5) = false) (hj : jumpB d = false) (hr : retB d = false)
    (hst : ∀ m, stepV d b [] ⟨a, 0, m⟩ = (⟨v, 0, m⟩, 0)) : runE (prog3 a b d) [] = 0 ∧ runV (prog3 a b d) [] = (v, 0, [0, 1, 2]) := by
  have hE : runE (prog3 a b d) [] = 0 := by
    rw [runE, taken_of (by simp [prog3]) (by simp [prog3]) (fun j hj => ?_) (by rfl)]
    · rfl
    · simp only [prog3, List.length_cons, List.length_nil] at hj
      rcases (show j = 0 ∨ j = 1 ∨ j = 2 by omega) with rfl | rfl | rfl
      · exact plain_good (by omega) ha (fault_imm a).1 (by decide) (by decide)
      · exact plain_good (by omega) (by omega) hf h5 (by assumption)
      · exact plain_good (by omega) (by omega) fault_retA (by decide) (by decide)
  refine ⟨hE, ?_⟩
  rw [runV, if_pos hE, show (prog3 a b d).length = 3 by rfl]
  have e0 : stepV ((0 : Nat) : Int) a [] mc0 = (⟨a, 0, mc0.m⟩, 0) := by simp [stepV, mc0]
  rw [runF_mk (c := 0) (k := a) rfl (by omega) ha (by decide) (by decide) (by decide) e0, if_pos rfl,
    runF_mk (c := d) (k := b) rfl (by omega) hb hr h5 hj (hst _), if_pos rfl, runF_mkA (t := 0) (f := 0) (k := 0) rfl]
  rfl

theorem byx_ops : byxB 12 = true ∧ byxB 28 = true ∧ byxB 44 = true ∧ byxB 76 = true ∧ byxB 92 = true ∧ byxB 172 = true ∧ byxB 108 = true ∧ byxB 124 = true ∧ byxB 60 = true ∧ byxB 156 = true := by decide +kernel
theorem byx_dops : byxB 4 = false ∧ byxB 20 = false ∧ byxB 36 = false ∧ byxB 68 = false ∧ byxB 84 = false ∧ byxB 164 = false ∧ byxB 100 = false ∧ byxB 116 = false ∧ byxB 52 = false ∧ byxB 148 = false := by decide +kernel
theorem andnot_ops : ∀ (i op : Nat), opsL[i]? = some op → ∃ d, opsD[i]? = some d ∧ bits .andNot .u16 (op : Int) 8 = (d : Int) ∧ op ≤ 255 ∧ d ≤ 255 := by
  intro i op h
  obtain ⟨a1, a2, a3, a4, a5, a6, a7, a8, a9, a10, a11, a12, a13, a14, a15, a16, a17, a18, a19, a20⟩ := andnot_tab
  have hi := (List.getElem?_eq_some_iff.1 h).1
  simp only [opsL, List.length_cons, List.length_nil] at hi
  rcases (show i = 0 ∨ i = 1 ∨ i = 2 ∨ i = 3 ∨ i = 4 ∨ i = 5 ∨ i = 6 ∨ i = 7 ∨ i = 8 ∨ i = 9 by omega) with rfl | rfl | rfl | rfl | rfl | rfl | rfl | rfl | rfl | rfl
  all_goals
    simp only [opsL, List.getElem?_cons_succ, List.getElem?_cons_zero, Option.some.injEq] at h
    subst h
    refine ⟨_, rfl, ?_, by omega, by omega⟩
    assumption

/-- P5.1: numbers loaded, one operation, one return. -/
theorem straight6 {a b s : Nat} (ha : a ≤ 4294967295) (hb : b ≤ 4294967295) (hs : s < 16) : ∀ (i op wt : Nat), opsL[i]? = some op → (wantL a b)[i]? = some wt →
    runE (prog6 a b s op) [] = 0 ∧ runV (prog6 a b s op) [] = if b = 0 ∧ 7 < i then (0, 2, [0, 1, 2, 3, 4]) else (wt, 0, [0, 1, 2, 3, 4, 5]) := by
  intro i op wt h hw
  obtain ⟨a1, a2, a3, a4, a5, a6, a7, a8, a9, a10, a11, a12, a13, a14, a15, a16, a17, a18, a19, a20⟩ := andnot_tab
  obtain ⟨b1, b2, b3, b4, b5, b6, b7, b8, b9, b10⟩ := byx_ops
  have hi := (List.getElem?_eq_some_iff.1 h).1
  simp only [opsL, List.length_cons, List.length_nil] at hi
  rcases (show i = 0 ∨ i = 1 ∨ i = 2 ∨ i = 3 ∨ i = 4 ∨ i = 5 ∨ i = 6 ∨ i = 7 ∨ i = 8 ∨ i = 9 by omega) with rfl | rfl | rfl | rfl | rfl | rfl | rfl | rfl | rfl | rfl
  all_goals
    simp only [opsL, List.getElem?_cons_succ, List.getElem?_cons_zero, Option.some.injEq] at h
    simp only [wantL, List.getElem?_cons_succ, List.getElem?_cons_zero, Option.some.injEq] at hw
    subst h
    subst hw
  · have k := prog6_run (op := 12) (v := (a + b) % 4294967296) (fl := 0) ha hb hs (by omega) (by decide) (by decide) (by decide) (by decide) (fun m => by simp [stepV, operV, sideV, a2, b1])
    rw [if_neg (by omega)]
    rw [if_pos rfl] at k
    exact k
  · have k := prog6_run (op := 28) (v := (a + 4294967296 - b) % 4294967296) (fl := 0) ha hb hs (by omega) (by decide) (by decide) (by decide) (by decide) (fun m => by simp [stepV, operV, sideV, a4, b2])
    rw [if_neg (by omega)]
    rw [if_pos rfl] at k
    exact k
  · have k := prog6_run (op := 44) (v := a * b % 4294967296) (fl := 0) ha hb hs (by omega) (by decide) (by decide) (by decide) (by decide) (fun m => by simp [stepV, operV, sideV, a6, b3])
    rw [if_neg (by omega)]
    rw [if_pos rfl] at k
    exact k
  · have k := prog6_run (op := 76) (v := a ||| b) (fl := 0) ha hb hs (by omega) (by decide) (by decide) (by decide) (by decide) (fun m => by simp [stepV, operV, sideV, a10, b4])
    rw [if_neg (by omega)]
    rw [if_pos rfl] at k
    exact k
  · have k := prog6_run (op := 92) (v := a &&& b) (fl := 0) ha hb hs (by omega) (by decide) (by decide) (by decide) (by decide) (fun m => by simp [stepV, operV, sideV, a12, b5])
    rw [if_neg (by omega)]
    rw [if_pos rfl] at k
    exact k
  · have k := prog6_run (op := 172) (v := a ^^^ b) (fl := 0) ha hb hs (by omega) (by decide) (by decide) (by decide) (by decide) (fun m => by simp [stepV, operV, sideV, a20, b6])
    rw [if_neg (by omega)]
    rw [if_pos rfl] at k
    exact k
  · have k := prog6_run (op := 108) (v := shiftV a b true) (fl := 0) ha hb hs (by omega) (by decide) (by decide) (by decide) (by decide) (fun m => by simp [stepV, operV, sideV, a14, b7])
    rw [if_neg (by omega)]
    rw [if_pos rfl] at k
    exact k
  · have k := prog6_run (op := 124) (v := shiftV a b false) (fl := 0) ha hb hs (by omega) (by decide) (by decide) (by decide) (by decide) (fun m => by simp [stepV, operV, sideV, a16, b8])
    rw [if_neg (by omega)]
    rw [if_pos rfl] at k
    exact k
  · by_cases hz : b = 0
    · rw [if_pos ⟨hz, by omega⟩]
      have k := prog6_run (op := 60) (v := 0) (fl := 2) ha hb hs (by omega) (by decide) (by decide) (by decide) (by decide) (fun m => by simp [stepV, operV, sideV, a8, b9, hz])
      rw [if_neg (by decide)] at k
      exact k
    · rw [if_neg (fun e => hz e.1), if_neg hz]
      have k := prog6_run (op := 60) (v := a / b) (fl := 0) ha hb hs (by omega) (by decide) (by decide) (by decide) (by decide) (fun m => by simp [stepV, operV, sideV, a8, b9, hz])
      rw [if_pos rfl] at k
      exact k
  · by_cases hz : b = 0
    · rw [if_pos ⟨hz, by omega⟩]
      have k := prog6_run (op := 156) (v := 0) (fl := 2) ha hb hs (by omega) (by decide) (by decide) (by decide) (by decide) (fun m => by simp [stepV, operV, sideV, a18, b10, hz])
      rw [if_neg (by decide)] at k
      exact k
    · rw [if_neg (fun e => hz e.1), if_neg hz]
      have k := prog6_run (op := 156) (v := a % b) (fl := 0) ha hb hs (by omega) (by decide) (by decide) (by decide) (by decide) (fun m => by simp [stepV, operV, sideV, a18, b10, hz])
      rw [if_pos rfl] at k
      exact k

theorem straight3 {a b : Nat} (ha : a ≤ 4294967295) (hb : b ≤ 4294967295) : ∀ (i d wt : Nat), opsD[i]? = some d → (wantL a b)[i]? = some wt → ¬ (b = 0 ∧ 7 < i) → ¬ (31 < b ∧ (i = 6 ∨ i = 7)) →
    runE (prog3 a b d) [] = 0 ∧ runV (prog3 a b d) [] = (wt, 0, [0, 1, 2]) := by
  intro i d wt h hw g1 g2
  obtain ⟨a1, a2, a3, a4, a5, a6, a7, a8, a9, a10, a11, a12, a13, a14, a15, a16, a17, a18, a19, a20⟩ := andnot_tab
  obtain ⟨b1, b2, b3, b4, b5, b6, b7, b8, b9, b10⟩ := byx_dops
  have hi := (List.getElem?_eq_some_iff.1 h).1
  simp only [opsD, List.length_cons, List.length_nil] at hi
  rcases (show i = 0 ∨ i = 1 ∨ i = 2 ∨ i = 3 ∨ i = 4 ∨ i = 5 ∨ i = 6 ∨ i = 7 ∨ i = 8 ∨ i = 9 by omega) with rfl | rfl | rfl | rfl | rfl | rfl | rfl | rfl | rfl | rfl
  all_goals
    simp only [opsD, List.getElem?_cons_succ, List.getElem?_cons_zero, Option.some.injEq] at h
    simp only [wantL, List.getElem?_cons_succ, List.getElem?_cons_zero, Option.some.injEq] at hw
    subst h
    subst hw
  · skip
    skip
    exact prog3_run (d := 4) (v := (a + b) % 4294967296) ha hb (by omega) (by simp [faultV, memB, divB, shfB, show knownB 4 = true by decide]) (by decide) (by decide) (by decide) (fun m => by simp [stepV, operV, sideV, a1, b1])
  · skip
    skip
    exact prog3_run (d := 20) (v := (a + 4294967296 - b) % 4294967296) ha hb (by omega) (by simp [faultV, memB, divB, shfB, show knownB 20 = true by decide]) (by decide) (by decide) (by decide) (fun m => by simp [stepV, operV, sideV, a3, b2])
  · skip
    skip
    exact prog3_run (d := 36) (v := a * b % 4294967296) ha hb (by omega) (by simp [faultV, memB, divB, shfB, show knownB 36 = true by decide]) (by decide) (by decide) (by decide) (fun m => by simp [stepV, operV, sideV, a5, b3])
  · skip
    skip
    exact prog3_run (d := 68) (v := a ||| b) ha hb (by omega) (by simp [faultV, memB, divB, shfB, show knownB 68 = true by decide]) (by decide) (by decide) (by decide) (fun m => by simp [stepV, operV, sideV, a9, b4])
  · skip
    skip
    exact prog3_run (d := 84) (v := a &&& b) ha hb (by omega) (by simp [faultV, memB, divB, shfB, show knownB 84 = true by decide]) (by decide) (by decide) (by decide) (fun m => by simp [stepV, operV, sideV, a11, b5])
  · skip
    skip
    exact prog3_run (d := 164) (v := a ^^^ b) ha hb (by omega) (by simp [faultV, memB, divB, shfB, show knownB 164 = true by decide]) (by decide) (by decide) (by decide) (fun m => by simp [stepV, operV, sideV, a19, b6])
  · have hz : ¬ 31 < b := fun e => g2 ⟨e, by omega⟩
    skip
    exact prog3_run (d := 100) (v := shiftV a b true) ha hb (by omega) (by simp [faultV, memB, divB, shfB, show knownB 100 = true by decide]; omega) (by decide) (by decide) (by decide) (fun m => by simp [stepV, operV, sideV, a13, b7])
  · have hz : ¬ 31 < b := fun e => g2 ⟨e, by omega⟩
    skip
    exact prog3_run (d := 116) (v := shiftV a b false) ha hb (by omega) (by simp [faultV, memB, divB, shfB, show knownB 116 = true by decide]; omega) (by decide) (by decide) (by decide) (fun m => by simp [stepV, operV, sideV, a15, b8])
  · have hz : ¬ b = 0 := fun e => g1 ⟨e, by omega⟩
    rw [if_neg hz]
    exact prog3_run (d := 52) (v := a / b) ha hb (by omega) (by simp [faultV, memB, divB, shfB, show knownB 52 = true by decide, hz]) (by decide) (by decide) (by decide) (fun m => by simp [stepV, operV, sideV, a7, b9, hz])
  · have hz : ¬ b = 0 := fun e => g1 ⟨e, by omega⟩
    rw [if_neg hz]
    exact prog3_run (d := 148) (v := a % b) ha hb (by omega) (by simp [faultV, memB, divB, shfB, show knownB 148 = true by decide, hz]) (by decide) (by decide) (by decide) (fun m => by simp [stepV, operV, sideV, a17, b10, hz])

end Go.Proofs.Ytaldhnionkacmab
