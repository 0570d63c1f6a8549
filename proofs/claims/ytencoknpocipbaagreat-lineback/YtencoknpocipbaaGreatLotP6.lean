/-
  Chapter 18 in words: which goals go by a Ja, where blocks lie in a program, the program itself. No Go text here. A Code is straight, if none of its instructions leaves and each part of it with a return behind is a program that is taken. No Go text here. Package insn: what it tells of codes. Package insn: Known, Class, Uses. The machine's words in memory.
-/
import Derived.Test.YtencoknpocipbaaGreatLotP5
import Derived.Test.YtencoknpocipbaaGreatLotP2
import Derived.Handy
namespace Go.Proofs.YtencoknpocipbaaGreat
open Go.RowKit
set_option maxRecDepth 100000

/-- The goals to which a test goes by a Ja; y, n: how far its goals are from its end. -/
def farV (b : Bk) (y n : Int) : List Int :=
  if y ≤ 255 ∧ n ≤ 255 then [] else if b.yes = b.no then [b.yes] else if y < 255 then [b.no] else if n < 255 then [b.yes] else [b.yes, b.no]
/-- The goals to which a block goes by a Ja. -/
def detV (b : Bk) (y n : Int) : List Int :=
  if b.en = 3 then farV b y n else if b.en = 2 ∧ 0 < y then [b.yes] else []
/-- How many instructions a block needs beside its Ja. -/
def roomV (b : Bk) : Nat := b.code.length + sizeE b
def lenB (x : Bk × List Int) : Nat := roomV x.1 + x.2.length

def detL (i : Nat) (b : Bk) (ls : List Nat) : List Int := detV b ((ls.getD 0 0 : Int) - (ls.getD (b.yes.toNat - (i + 1)) 0 : Int)) ((ls.getD 0 0 : Int) - (ls.getD (b.no.toNat - (i + 1)) 0 : Int))
/-- How much stands from each block on, up to the end. -/
def leftL : Nat → List Bk → List Nat
  | _, [] => [0]
  | i, b :: r => ((leftL (i + 1) r).getD 0 0 + lenB (b, detL i b (leftL (i + 1) r))) :: leftL (i + 1) r
/-- Blocks with their goals that go by a Ja. -/
def zipL : Nat → List Bk → List (Bk × List Int)
  | _, [] => []
  | i, b :: r => (b, detL i b (leftL (i + 1) r)) :: zipL (i + 1) r
def sumL (z : List (Bk × List Int)) : Nat := (z.map lenB).sum
def plN (z : List (Bk × List Int)) (j : Nat) : Nat := sumL (z.take j)
def plF (z : List (Bk × List Int)) (g : Int) : Int := (plN z g.toNat : Int)

def u8I (v : Int) : UInt8 := UInt8.ofNat (v % 256).toNat
def u32I (v : Int) : UInt32 := UInt32.ofNat (v % 4294967296).toNat
/-- How many instructions a jump leaves out on its way to a goal. -/
def leapL (pl : Int → Int) (d : List Int) (goal at' : Int) : Int := if goal ∈ d then (d.idxOf goal : Int) else pl goal - at' - 1
def jaF (pl : Int → Int) (p : Nat) (goal : Int) : In := ⟨5, 0, 0, u32I (leapL pl [] goal p)⟩
def jasF (pl : Int → Int) : Nat → List Int → List In
  | _, [] => []
  | p, x :: r => jaF pl p x :: jasF pl (p + 1) r
def endF (pl : Int → Int) (p : Nat) (b : Bk) (d : List Int) : List In :=
  if b.en = 2 then [] else if b.en = 3 then [⟨b.last.code, u8I (leapL pl d b.yes p), u8I (leapL pl d b.no p), b.last.k⟩] else [b.last]
def finB (pl : Int → Int) (p : Nat) (x : Bk × List Int) : List In := x.1.code ++ (endF pl (p + x.1.code.length) x.1 x.2 ++ jasF pl (p + roomV x.1) x.2)
def finG (pl : Int → Int) : Nat → List (Bk × List Int) → List In
  | _, [] => []
  | p, x :: r => finB pl p x ++ finG pl (p + lenB x) r
/-- P18.1: the program. -/
def progG (g : List Bk) : List In := finG (plF (zipL 0 g)) 0 (zipL 0 g)
def linE (g : List Bk) : Int := if (gckG g).2 = 0 then (if 4096 < countG measE g then 181 else 0) else 180
def linG (g : List Bk) : List In := if linE g = 0 then progG g else []

theorem zipL_len : ∀ i g, (zipL i g).length = g.length
  | _, [] => rfl
  | i, b :: r => by rw [zipL, List.length_cons, zipL_len, List.length_cons]
theorem leftL_len : ∀ i g, (leftL i g).length = g.length + 1
  | _, [] => rfl
  | i, b :: r => by rw [leftL, List.length_cons, leftL_len, List.length_cons]
theorem sumL_cons (x : Bk × List Int) (z : List (Bk × List Int)) : sumL (x :: z) = lenB x + sumL z := by simp [sumL]
theorem sumL_app (y z : List (Bk × List Int)) : sumL (y ++ z) = sumL y + sumL z := by simp [sumL]
theorem leftL_get : ∀ i g k, (leftL i g).getD k 0 = sumL ((zipL i g).drop k)
  | _, [], k => by cases k <;> rfl
  | i, b :: r, 0 => by
    rw [leftL, zipL, List.drop_zero, sumL_cons]
    show (leftL (i + 1) r).getD 0 0 + _ = _
    rw [leftL_get (i + 1) r 0, List.drop_zero]
    omega
  | i, b :: r, k + 1 => by
    rw [leftL, zipL, List.drop_succ_cons]
    exact leftL_get (i + 1) r k
theorem pl_left (z : List (Bk × List Int)) (j : Nat) : plN z j + sumL (z.drop j) = sumL z := by rw [plN, ← sumL_app, List.take_append_drop]
theorem zipL_drop : ∀ i g k, (zipL i g).drop k = zipL (i + k) (g.drop k)
  | _, [], k => by simp [zipL]
  | i, b :: r, 0 => by simp
  | i, b :: r, k + 1 => by rw [zipL, List.drop_succ_cons, List.drop_succ_cons, zipL_drop (i + 1) r k, show i + 1 + k = i + (k + 1) by omega]
theorem zipL_get {i : Nat} {g : List Bk} {j : Nat} (hj : j < g.length) : (zipL i g)[j]? = some (g[j], detL (i + j) g[j] (leftL (i + j + 1) (g.drop (j + 1)))) := by
  have h := zipL_drop i g j
  have h2 : ((zipL i g).drop j)[0]? = (zipL i g)[j]? := by rw [List.getElem?_drop, Nat.add_zero]
  rw [← h2, h, List.drop_eq_getElem_cons hj, zipL]
  rfl
theorem plN_succ {g : List Bk} {i j : Nat} (hj : j < g.length) : plN (zipL i g) (j + 1) = plN (zipL i g) j + lenB (g[j], detL (i + j) g[j] (leftL (i + j + 1) (g.drop (j + 1)))) := by
  rw [plN, plN, List.take_add_one, zipL_get hj, sumL_app]
  simp [sumL]
theorem plN_mono (z : List (Bk × List Int)) {i j : Nat} (h : i ≤ j) : plN z i ≤ plN z j := by
  rw [plN, plN, show j = i + (j - i) by omega, List.take_add, sumL_app]
  omega
theorem plN_le (z : List (Bk × List Int)) (j : Nat) : plN z j ≤ sumL z := by have := pl_left z j; omega

/-- The goals that go by a Ja, told by places. -/
theorem left_pl (g : List Bk) (j k : Nat) (h : j + 1 ≤ k) : ((leftL (j + 1) (g.drop (j + 1))).getD (k - (j + 1)) 0 : Int) = sumL (zipL 0 g) - plN (zipL 0 g) k := by
  have h1 := leftL_get (j + 1) (g.drop (j + 1)) (k - (j + 1))
  have h2 := zipL_drop 0 g (j + 1)
  rw [Nat.zero_add] at h2
  rw [← h2, List.drop_drop, show j + 1 + (k - (j + 1)) = k by omega] at h1
  have := pl_left (zipL 0 g) k
  omega
theorem detL_eq (g : List Bk) (j : Nat) (b : Bk) : detL j b (leftL (j + 1) (g.drop (j + 1))) = detV b (((plN (zipL 0 g) (j + 1 + (b.yes.toNat - (j + 1))) : Nat) : Int) - plN (zipL 0 g) (j + 1)) (((plN (zipL 0 g) (j + 1 + (b.no.toNat - (j + 1))) : Nat) : Int) - plN (zipL 0 g) (j + 1)) := by
  have h0 := left_pl g j (j + 1) (Nat.le_refl _)
  have h1 := left_pl g j (j + 1 + (b.yes.toNat - (j + 1))) (by omega)
  have h2 := left_pl g j (j + 1 + (b.no.toNat - (j + 1))) (by omega)
  rw [Nat.sub_self] at h0
  rw [show j + 1 + (b.yes.toNat - (j + 1)) - (j + 1) = b.yes.toNat - (j + 1) by omega] at h1
  rw [show j + 1 + (b.no.toNat - (j + 1)) - (j + 1) = b.no.toNat - (j + 1) by omega] at h2
  rw [detL, h0, h1, h2]
  congr 1 <;> omega

theorem jasF_len (pl : Int → Int) : ∀ p d, (jasF pl p d).length = d.length
  | _, [] => rfl
  | p, x :: r => by rw [jasF, List.length_cons, jasF_len, List.length_cons]
theorem endF_len (pl : Int → Int) (p : Nat) (b : Bk) (d : List Int) : (endF pl p b d).length = sizeE b := by
  unfold endF sizeE
  split
  · rfl
  · split <;> rfl
theorem finB_len (pl : Int → Int) (p : Nat) (x : Bk × List Int) : (finB pl p x).length = lenB x := by
  rw [finB, List.length_append, List.length_append, endF_len, jasF_len, lenB, roomV]
  omega
theorem finG_len (pl : Int → Int) : ∀ p z, (finG pl p z).length = sumL z
  | _, [] => rfl
  | p, x :: r => by rw [finG, List.length_append, finB_len, finG_len, sumL_cons]
theorem finG_get (pl : Int → Int) : ∀ p (z : List (Bk × List Int)) (j : Nat) x, z[j]? = some x → ∀ i, i < lenB x → (finG pl p z)[plN z j + i]? = (finB pl (p + plN z j) x)[i]?
  | _, [], j, x, h, i, _ => by simp at h
  | p, y :: r, 0, x, h, i, hi => by
    obtain rfl : y = x := by simpa using h
    have h0 : plN (y :: r) 0 = 0 := rfl
    rw [h0, Nat.zero_add, Nat.add_zero, finG, List.getElem?_append_left (by rw [finB_len]; exact hi)]
  | p, y :: r, j + 1, x, h, i, hi => by
    have h1 : plN (y :: r) (j + 1) = lenB y + plN r j := by rw [plN, List.take_succ_cons, sumL_cons]; rfl
    rw [h1, finG, List.getElem?_append_right (by rw [finB_len]; omega), finB_len, show lenB y + plN r j + i - lenB y = plN r j + i by omega,
      finG_get pl (p + lenB y) r j x (by simpa using h) i hi, show p + (lenB y + plN r j) = p + lenB y + plN r j by omega]

end Go.Proofs.YtencoknpocipbaaGreat

namespace Go.Proofs.YtencoknpocipbaaGreat
open Go.RowKit
set_option maxRecDepth 100000

def ret0 : In := ⟨6, 0, 0, 0⟩

theorem leaves_jump {x : In} (h : leavesB x = false) (hk : knownB x.code.toNat = true) : (((x.code.toNat : Int) == 5) = false) ∧ jumpB x.code.toNat = false := by
  simp only [leavesB, classV, hk, if_true, Bool.or_eq_false_iff] at h
  refine ⟨?_, ?_⟩
  · rw [beq_eq_false_iff_ne]
    intro e
    rw [e] at h
    simp at h
  · cases hj : jumpB x.code.toNat with
    | false => rfl
    | true =>
      exfalso
      have h5 := h.1
      rw [beq_eq_false_iff_ne] at h5
      simp only [jumpB, Bool.or_eq_true, beq_iff_eq] at hj
      omega

theorem plain_bad {x : In} {n i : Nat} (h : leavesB x = false) (hf : faultV x.code.toNat x.k.toNat = 0) : badV n i x = 0 := by
  have hk : knownB x.code.toNat = true := by
    cases hk : knownB x.code.toNat with
    | true => rfl
    | false => rw [faultV, if_pos hk] at hf; simp at hf
  obtain ⟨h5, hj⟩ := leaves_jump h hk
  refine bad_of hf ?_
  simp only [jumpBad, h5, hj, Bool.false_and, Bool.or_false]

theorem chunk_check {xs : List In} (h0 : xs.length ≤ 4095) (hl : ∀ x ∈ xs, leavesB x = false) : (checkV (xs ++ [ret0])).2 = 0 ↔ ∀ x ∈ xs, faultV x.code.toNat x.k.toNat = 0 := by
  constructor
  · intro h x hx
    obtain ⟨i, hi, rfl⟩ := List.getElem_of_mem hx
    obtain ⟨-, -, hb, -⟩ := taken h
    have := hb i (by simp; omega)
    rw [List.getElem_append_left hi] at this
    exact (bad_zero this).1
  · intro h
    rw [taken_of (by simp) (by simp; omega) (fun j hj => ?_) (by simp [lastB, ret0, retB])]
    by_cases hi : j < xs.length
    · rw [List.getElem_append_left hi]
      exact plain_bad (hl _ (List.getElem_mem hi)) (h _ (List.getElem_mem hi))
    · rw [List.getElem_append_right (by omega)]
      have : j - xs.length = 0 := by simp at hj; omega
      simp only [this, List.getElem_cons_zero]
      exact bad_of (by decide) (by simp [jumpBad, ret0, jumpB])

theorem straight_iff (xs : List In) : straightB xs = true ↔ (∀ x ∈ xs, leavesB x = false) ∧ ∀ x ∈ xs, faultV x.code.toNat x.k.toNat = 0 := by
  simp only [straightB, List.all_eq_true, plainI, Bool.and_eq_true, Bool.not_eq_true', beq_iff_eq]
  exact ⟨fun h => ⟨fun x hx => (h x hx).1, fun x hx => (h x hx).2⟩, fun h x hx => ⟨h.1 x hx, h.2 x hx⟩⟩

end Go.Proofs.YtencoknpocipbaaGreat

namespace Go.Proofs.YtencoknpocipbaaGreat
open Go.RowKit
set_option maxRecDepth 100000

/-- Codes that look at K; codes that may end a run. -/
def tK (c : Int) : Bool := loadB c || (c == 0 || c == 96 || c == 1 || c == 97 || c == 2 || c == 3 || c == 4 || c == 20 || c == 36 || c == 52 || c == 148 || c == 68 || c == 84 || c == 164 || c == 100 || c == 116 || c == 5 || c == 6) || (c == 21 || c == 37 || c == 53 || c == 69)
def tF (c : Int) : Bool := loadB c || (c == 60 || c == 156)

theorem ret_traits {a b c d x y z u : Bool} (h1 : a = x) (h2 : b = y) (h3 : c = z) (h4 : d = u) : Ending.returned (.agg #[.bool a, .bool b, .bool c, .bool d]) = .returned (.agg #[.bool x, .bool y, .bool z, .bool u]) := by rw [h1, h2, h3, h4]

set_option maxRecDepth 100000 in
set_option maxHeartbeats 4000000 in
theorem traits_any (c : Int) (w : World) : Calls Tryz.prog 119 #[.int .u16 c] w fun e w' => e = .returned (.agg #[.bool (knownB c), .bool (tK c), .bool (jumpB c), .bool (tF c)]) ∧ w.grownBy w' none := by
  go_enter Tryz.func119, Tryz.ntmps119
  go_wp2
  all_goals
    go_returns
    refine ⟨?_, grown_trans (World.grownBy_alloc _ _ _) (World.grownBy_alloc _ _ _)⟩
    first
      | (have e := eq_of_beq ‹(c == _) = true›; subst e; rfl)
      | exact ret_traits (by simp [knownB, plainB, jumpB, operB, *]) (by simp [tK, loadB, *]) (by simp [jumpB, *]) (by simp [tF, loadB, *])

end Go.Proofs.YtencoknpocipbaaGreat

namespace Go.Proofs.YtencoknpocipbaaGreat
open Go.RowKit
set_option maxRecDepth 100000

/-- A known code is one of so many. -/
theorem known_cases {c : Int} (h : knownB c = true) : c ∈ ([0, 32, 40, 48, 64, 72, 80, 96, 128, 1, 97, 129, 177, 2, 3, 132, 6, 22, 7, 135, 5, 21, 29, 37, 45, 53, 61, 69, 77, 4, 12, 20, 28, 36, 44, 52, 60, 68, 76, 84, 92, 100, 108, 116, 124, 148, 156, 164, 172] : List Int) := by
  simp only [knownB, plainB, jumpB, operB, Bool.or_eq_true, beq_iff_eq] at h
  simp only [List.mem_cons, List.not_mem_nil, or_false]
  omega

theorem known_all (p : Int → Bool) (hp : ([0, 32, 40, 48, 64, 72, 80, 96, 128, 1, 97, 129, 177, 2, 3, 132, 6, 22, 7, 135, 5, 21, 29, 37, 45, 53, 61, 69, 77, 4, 12, 20, 28, 36, 44, 52, 60, 68, 76, 84, 92, 100, 108, 116, 124, 148, 156, 164, 172] : List Int).all p = true) {c : Int} (h : knownB c = true) : p c = true := List.all_eq_true.1 hp c (known_cases h)

theorem tK_known {c : Int} (h : tK c = true) : knownB c = true := by
  simp only [tK, loadB, knownB, plainB, jumpB, operB, Bool.or_eq_true, beq_iff_eq] at *
  omega

theorem tF_known {c : Int} (h : tF c = true) : knownB c = true := by
  simp only [tF, loadB, knownB, plainB, jumpB, operB, Bool.or_eq_true, beq_iff_eq] at *
  omega

theorem tK_eq (c : Int) : tK c = usesK c := by
  cases hk : knownB c with
  | false =>
    cases ht : tK c with
    | true => rw [tK_known ht] at hk; cases hk
    | false => simp [usesK, hk]
  | true => exact eq_of_beq (known_all (fun c => tK c == usesK c) (by decide +kernel) hk)

theorem tJ_eq (c : Int) : jumpB c = usesJ c := by
  cases hj : jumpB c <;> simp [usesJ, knownB, hj]

theorem tF_eq (c : Int) : tF c = usesF c := by
  cases hk : knownB c with
  | false =>
    cases ht : tF c with
    | true => rw [tF_known ht] at hk; cases hk
    | false => simp [usesF, hk]
  | true => simp [usesF, hk, tF, Bool.or_assoc]

theorem told_field (x y z u : Bool) (w : World) : (Instr.field 148 (.agg #[.bool x, .bool y, .bool z, .bool u]) 0).run Tryz.prog w = .ok (.bool x) w := by kernel_rfl

set_option maxHeartbeats 400000 in
theorem known_any (c : Int) (w : World) : Calls Tryz.prog 103 #[.int .u16 c] w fun e w' => e = .returned (.bool (knownB c)) ∧ w.grownBy w' none := by
  go_enter Tryz.func103, Tryz.ntmps103
  go_wp2_with fail
  refine (traits_any c _).mono ?_
  rintro e w' ⟨rfl, G⟩
  have hfd : ∀ w : World, (Instr.field 148 (.agg #[.bool (knownB c), .bool (tK c), .bool (jumpB c), .bool (tF c)]) 0).run Tryz.prog w = .ok (.bool (knownB c)) w := fun w => told_field _ _ _ _ w
  go_wp2
  go_ret
  exact ⟨rfl, G⟩

set_option maxHeartbeats 400000 in
theorem class_any (c : Int) (w : World) (h0 : 0 ≤ c) (h1 : c ≤ 65535) : Calls Tryz.prog 54 #[.int .u16 c] w fun e w' => e = .returned (.int .i64 (classV c)) ∧ w.grownBy w' none := by
  have hb := and7 c h0 h1
  have b0 : 0 ≤ c % 8 := by omega
  have b1 : c % 8 < 8 := by omega
  cases hk : knownB c with
  | true =>
    go_enter Tryz.func54, Tryz.ntmps54
    go_wp2_with fail
    refine (known_any c _).mono ?_
    rintro e w' ⟨rfl, G⟩
    go_wp2
    go_ret
    exact ⟨by simp [classV, hk], G⟩
  | false =>
    go_enter Tryz.func54, Tryz.ntmps54
    go_wp2_with fail
    refine (known_any c _).mono ?_
    rintro e w' ⟨rfl, G⟩
    go_wp2
    go_ret
    exact ⟨by simp [classV, hk], G⟩

set_option maxHeartbeats 400000 in
theorem uses_any (c : Int) (w : World) : Calls Tryz.prog 110 #[.int .u16 c] w fun e w' => e = .returned (.tuple #[.bool (usesK c), .bool (usesJ c), .bool (usesF c)]) ∧ w.grownBy w' none := by
  rw [← tK_eq, ← tJ_eq, ← tF_eq]
  go_enter Tryz.func110, Tryz.ntmps110
  go_wp2_with fail
  refine (traits_any c _).mono ?_
  rintro e w' ⟨rfl, G⟩
  have G2 := grown_trans G (World.grownBy_alloc w' (.cells #[.bool (knownB c), .bool (tK c), .bool (jumpB c), .bool (tF c)] 148) none)
  clear G
  go_wp2
  go_quiet (fail)
  go_wp2
  go_ret3
  exact ⟨rfl, grown_trans G2 (grown_drewN _ _ none)⟩

end Go.Proofs.YtencoknpocipbaaGreat

namespace Go.Proofs.YtencoknpocipbaaGreat
open Go.RowKit
set_option maxRecDepth 100000

/-- The words lie in a block of their own. -/
def MAt (w : World) (t : TypeId) (base g : Nat) (M : Mc) : Prop := w.ownsRow base t 18 (.slice (some ⟨g, 0, none⟩) 1 1) 1 M.cells

theorem MAt.a {w : World} {t base g : Nat} {M : Mc} (h : MAt w t base g M) : w.cell? ⟨g, 0, none⟩ = some (.int .u32 (M.a : Int)) := by
  rw [World.ownsRow.cellAt h 0 (by omega)]; rfl

theorem MAt.x {w : World} {t base g : Nat} {M : Mc} (h : MAt w t base g M) : w.cell? ⟨g, 1, none⟩ = some (.int .u32 (M.x : Int)) := by
  rw [World.ownsRow.cellAt h 1 (by omega)]; rfl

theorem MAt.m {w : World} {t base g : Nat} {M : Mc} (h : MAt w t base g M) (hm : M.m.length = 16) (i : Nat) (hi : i < 16) : w.cell? ⟨g, 2 + i, none⟩ = some (.int .u32 (M.m.getD i 0 : Int)) := by
  rw [World.ownsRow.cellAt h (2 + i) (by omega), Mc.cells, show 2 + i = i + 1 + 1 by omega, List.getElem?_cons_succ, List.getElem?_cons_succ, List.getElem?_map, List.getElem?_eq_getElem (by omega)]
  simp [u32v, List.getElem?_eq_getElem (show i < M.m.length by omega)]

theorem MAt.free {w : World} {t base g : Nat} {M : Mc} (h : MAt w t base g M) (i : Nat) : w.frozen? ⟨g, i, none⟩ = false := World.ownsRow.frozenAt h i

theorem MAt.setA {w : World} {t base g : Nat} {M : Mc} (h : MAt w t base g M) (v : Nat) : MAt (w.setCell ⟨g, 0, none⟩ (.int .u32 (v : Int))) t base g ⟨v, M.x, M.m⟩ := (World.ownsRow.stored h 0 (.int .u32 (v : Int))).1

theorem MAt.setX {w : World} {t base g : Nat} {M : Mc} (h : MAt w t base g M) (v : Nat) : MAt (w.setCell ⟨g, 1, none⟩ (.int .u32 (v : Int))) t base g ⟨M.a, v, M.m⟩ := (World.ownsRow.stored h 1 (.int .u32 (v : Int))).1

theorem MAt.setM {w : World} {t base g : Nat} {M : Mc} (h : MAt w t base g M) (i v : Nat) : MAt (w.setCell ⟨g, 2 + i, none⟩ (.int .u32 (v : Int))) t base g ⟨M.a, M.x, M.m.set i v⟩ := by
  have := (World.ownsRow.stored h (2 + i) (.int .u32 (v : Int))).1
  unfold MAt
  have e : (Mc.cells ⟨M.a, M.x, M.m.set i v⟩) = M.cells.set (2 + i) (.int .u32 (v : Int)) := by
    rw [Mc.cells, Mc.cells, show 2 + i = i + 1 + 1 by omega, List.set_cons_succ, List.set_cons_succ, List.map_set]
    rfl
  rw [e]
  exact this

theorem MAt.lt {w : World} {t base g : Nat} {M : Mc} (h : MAt w t base g M) : base ≤ g ∧ g < w.heap.size := World.ownsRow.lt h g rfl

theorem MAt.kept {w w' : World} {t base g : Nat} {row : Option Nat} {M : Mc} (h : MAt w t base g M) (hg : w.grownBy w' row) (hne : row ≠ some g) : MAt w' t base g M :=
  World.ownsRow.kept h hg (.inr (by simp only [Value.ownBlock]; exact fun e => hne e.symm))

theorem mat_new (w : World) (t base : Nat) (hb : base ≤ w.heap.size) : MAt (w.alloc (.cells #[.int .u32 0, .int .u32 0, .int .u32 0, .int .u32 0, .int .u32 0, .int .u32 0, .int .u32 0, .int .u32 0, .int .u32 0, .int .u32 0, .int .u32 0, .int .u32 0, .int .u32 0, .int .u32 0, .int .u32 0, .int .u32 0, .int .u32 0, .int .u32 0] t)) t base w.heap.size mc0 :=
  World.ownsRow_lit (e := t) (size := 18) w #[.int .u32 0, .int .u32 0, .int .u32 0, .int .u32 0, .int .u32 0, .int .u32 0, .int .u32 0, .int .u32 0, .int .u32 0, .int .u32 0, .int .u32 0, .int .u32 0, .int .u32 0, .int .u32 0, .int .u32 0, .int .u32 0, .int .u32 0, .int .u32 0] 1 hb (by unfold maxLen; omega) (by simp)

theorem vand15 (k : Nat) (hk : k ≤ 4294967295) : bits .and .u32 (k : Int) 15 = ((k % 16 : Nat) : Int) := by
  have := u32_and_nat k 15 (by omega) (by omega)
  rw [show ((15 : Nat) : Int) = 15 by rfl] at this
  rw [this, show (15 : Nat) = 2 ^ 4 - 1 by rfl, Nat.and_two_pow_sub_one_eq_mod]

end Go.Proofs.YtencoknpocipbaaGreat
