/-
  Package graph as landed: a jump's goals; a copy of instructions; where blocks begin. Package check as landed: which codes use the words of scratch, which return, where jumps go, and the five questions.
-/
import Derived.Test.YthffbogejcbdiaaGrC
import Derived.Test.YthffbogejcbdiaaLotP3
import Derived.Test.YthffbogejcbdiaaLotP4
import Derived.Test.YthffbogejcbdiaaLotP6
import Derived.Shelf.Abstract
namespace Go.Proofs.Ythffbogejcbdiaa
open Go.RowKit
set_option maxRecDepth 100000

/-- The places at which a run goes on behind a jump. -/
def yesG (i : Nat) (x : In) : Nat := i + 1 + (if ((x.code.toNat : Int) == 5) = true then x.k.toNat else x.jt.toNat)
def noG (i : Nat) (x : In) : Nat := i + 1 + (if ((x.code.toNat : Int) == 5) = true then x.k.toNat else x.jf.toNat)

set_option maxHeartbeats 1000000 in
theorem goals_any (i : Nat) (hi : i ≤ 1000000) (x : In) (w : World) : Calls Try.prog 51 #[.int .i64 (i : Int), inV x] w fun e w' => e = .returned (.tuple #[.int .i64 (yesG i x : Int), .int .i64 (noG i x : Int)]) ∧ w.grownBy w' none := by
  obtain ⟨Y, hY⟩ : ∃ Y, yesG i x = Y := ⟨_, rfl⟩
  obtain ⟨N, hN⟩ : ∃ N, noG i x = N := ⟨_, rfl⟩
  rw [hY, hN]
  have HY : Hid (yesG i x = Y) := hY
  have HN : Hid (noG i x = N) := hN
  clear hY hN
  have b1 := x.jt.toNat_lt
  have b2 := x.jf.toNat_lt
  have b3 := x.k.toNat_lt
  have C0 := cv_lit w 46 [.int .u16 (x.code.toNat : Int), .int .u8 (x.jt.toNat : Int), .int .u8 (x.jf.toNat : Int), .int .u32 (x.k.toNat : Int)]
  have G0 : w.grownBy (w.alloc (.cells #[.int .u16 (x.code.toNat : Int), .int .u8 (x.jt.toNat : Int), .int .u8 (x.jf.toNat : Int), .int .u32 (x.k.toNat : Int)] 46)) none := World.grownBy_alloc _ _ _
  go_enter Try.func51, Try.ntmps51
  go_upto_region 1 with fail
  have c0 : (w.alloc (.cells #[.int .u16 (x.code.toNat : Int), .int .u8 (x.jt.toNat : Int), .int .u8 (x.jf.toNat : Int), .int .u32 (x.k.toNat : Int)] 46)).cell? ⟨w.heap.size, 0, none⟩ = some (.int .u16 (x.code.toNat : Int)) := C0.2 _ rfl 0 (by simp)
  have c1 : (w.alloc (.cells #[.int .u16 (x.code.toNat : Int), .int .u8 (x.jt.toNat : Int), .int .u8 (x.jf.toNat : Int), .int .u32 (x.k.toNat : Int)] 46)).cell? ⟨w.heap.size, 1, none⟩ = some (.int .u8 (x.jt.toNat : Int)) := C0.2 _ rfl 1 (by simp)
  have c2 : (w.alloc (.cells #[.int .u16 (x.code.toNat : Int), .int .u8 (x.jt.toNat : Int), .int .u8 (x.jf.toNat : Int), .int .u32 (x.k.toNat : Int)] 46)).cell? ⟨w.heap.size, 2, none⟩ = some (.int .u8 (x.jf.toNat : Int)) := C0.2 _ rfl 2 (by simp)
  have c3 : (w.alloc (.cells #[.int .u16 (x.code.toNat : Int), .int .u8 (x.jt.toNat : Int), .int .u8 (x.jf.toNat : Int), .int .u32 (x.k.toNat : Int)] 46)).cell? ⟨w.heap.size, 3, none⟩ = some (.int .u32 (x.k.toNat : Int)) := C0.2 _ rfl 3 (by simp)
  clear C0
  generalize w.alloc (.cells #[.int .u16 (x.code.toNat : Int), .int .u8 (x.jt.toNat : Int), .int .u8 (x.jf.toNat : Int), .int .u32 (x.k.toNat : Int)] 46) = w1 at *
  generalize w.heap.size = B at *
  cases h5 : ((x.code.toNat : Int) == 5) with
  | true =>
    go_upto_region 3 with fail
    go_region
    go_wp2
    go_ret2
    refine ⟨?_, grown_trans G0 (grown_drewN _ _ none)⟩
    rw [← HY.out, ← HN.out, yesG, noG, h5]
    simp only [if_true]
    push_cast
    rfl
  | false =>
    go_upto_region 4 with fail
    go_region
    go_wp2
    go_ret2
    refine ⟨?_, grown_trans G0 (grown_drewN _ _ none)⟩
    rw [← HY.out, ← HN.out, yesG, noG, h5]
    simp only [Bool.false_eq_true, if_false]
    push_cast
    rfl

set_option maxHeartbeats 1000000 in
theorem copied_any (a : Option Addr) (ca : Nat) (xs : List In) (w : World) (ha : CV w a (flat xs)) (hc0 : a = none → ca = 0) (hm : xs.length * 8 ≤ 140737488355328) :
    Calls Try.prog 49 #[.slice a xs.length ca] w fun e w' => ∃ v, e = .returned v ∧ IOwns w' w.heap.size v xs ∧ w.grownBy w' none := by
  obtain ⟨i0, hi, hz0, hz1, hz2⟩ := info_parts info46
  have H : Hid (CV w a (flat xs)) := ha
  have HC : Hid (a = none → ca = 0) := hc0
  clear ha hc0
  go_enter Try.func49, Try.ntmps49
  go_wp2_with (at_builtin; refine wpList_append_cv rfl (.const (.slice none 0 0)) (.tmp 3) 22 rfl 46 i0 _ 4 8 Try.underlying22 hi hz0 hz1 hz2 rfl (by decide) w.heap.size _ 0 [] rfl ?q1 a xs.length ca (flat xs) rfl (flat_len xs) ?q7 ?q2 (flat_one xs) ?q3 ?q4 ?q5 ?q6)
  case q1 => exact World.ownsRow_nil _ _ _ _
  case q7 => exact HC.out
  case q2 => exact H.out
  case q3 => unfold maxLen; omega
  case q4 => omega
  case q5 => simp
  case q6 =>
    intro v' w' h1 h2
    have O : IOwns w' w.heap.size v' xs := by simpa using h1
    have G : w.grownBy w' none := h2
    clear h2 h1
    go_wp2
    go_ret
    exact ⟨v', rfl, O, G⟩

end Go.Proofs.Ythffbogejcbdiaa

namespace Go.Proofs.Ythffbogejcbdiaa
open Go.RowKit
set_option maxRecDepth 100000

theorem class_ret (c : Int) : (classV c == 6) = retB c := by
  cases hk : knownB c with
  | false =>
    have h6 : retB c = false := by
      cases h : retB c with
      | false => rfl
      | true =>
        simp only [retB, Bool.or_eq_true, beq_iff_eq] at h
        rcases h with rfl | rfl <;> (revert hk; decide)
    rw [h6, classV, hk]
    rfl
  | true => exact eq_of_beq (known_all (fun c => (classV c == 6) == retB c) (by decide +kernel) hk)

set_option maxHeartbeats 400000 in
theorem scratch_any (c : Int) (t f k : Nat) (w : World) :
    Calls Try.prog 42 #[.agg #[.int .u16 c, .int .u8 t, .int .u8 f, .int .u32 k]] w fun e w' => e = .returned (.bool (memB c)) ∧ w.grownBy w' none := by
  go_enter Try.func42, Try.ntmps42
  go_wp2
  all_goals
    go_ret
    exact ⟨ret_bool (by simp [memB, *]), World.grownBy_alloc _ _ _⟩

set_option maxHeartbeats 400000 in
theorem returns_any (c : Int) (t f k : Nat) (w : World) (h0 : 0 ≤ c) (h1 : c ≤ 65535) :
    Calls Try.prog 15 #[.agg #[.int .u16 c, .int .u8 t, .int .u8 f, .int .u32 k]] w fun e w' => e = .returned (.bool (retB c)) ∧ w.grownBy w' none := by
  have G0 : w.grownBy (w.alloc (.cells #[.int .u16 c, .int .u8 t, .int .u8 f, .int .u32 k] 46)) none := World.grownBy_alloc _ _ _
  go_enter Try.func15, Try.ntmps15
  go_wp2_with fail
  refine (class_any c _ h0 h1).mono ?_
  rintro e w' ⟨rfl, G⟩
  go_wp2
  go_ret
  exact ⟨ret_bool (class_ret c), grown_trans G0 G⟩

/-- How many instructions a jump leaves out, either way. -/
def yesV (c : Int) (t k : Nat) : Nat := if (c == 5) = true then k else if jumpB c = true then t else 0
def noV (c : Int) (f k : Nat) : Nat := if (c == 5) = true then k else if jumpB c = true then f else 0
def leapB (c : Int) : Bool := c == 5 || jumpB c

set_option maxHeartbeats 1000000 in
theorem leaps_any (c : Int) (t f k : Nat) (w : World) (ht : t < 256) (hf : f < 256) :
    Calls Try.prog 46 #[.agg #[.int .u16 c, .int .u8 t, .int .u8 f, .int .u32 k]] w fun e w' => e = .returned (.tuple #[.int .u32 (yesV c t k : Int), .int .u32 (noV c f k : Int), .bool (leapB c)]) ∧ w.grownBy w' none := by
  have G0 : w.grownBy (w.alloc (.cells #[.int .u16 c, .int .u8 t, .int .u8 f, .int .u32 k] 46)) none := World.grownBy_alloc _ _ _
  cases h5 : (c == 5) with
  | true =>
    have e1 : yesV c t k = k := by rw [yesV, if_pos h5]
    have e2 : noV c f k = k := by rw [noV, if_pos h5]
    have e3 : leapB c = true := by rw [leapB, h5]; rfl
    rw [e1, e2, e3]
    go_enter Try.func46, Try.ntmps46
    go_wp2
    go_quiet (fail)
    go_wp2
    go_ret3
    exact ⟨rfl, grown_trans G0 (grown_drewN _ _ none)⟩
  | false =>
    cases hj : jumpB c with
    | true =>
      have e1 : yesV c t k = t := by rw [yesV, if_neg (by rw [h5]; simp), if_pos hj]
      have e2 : noV c f k = f := by rw [noV, if_neg (by rw [h5]; simp), if_pos hj]
      have e3 : leapB c = true := by rw [leapB, h5, hj]; rfl
      rw [e1, e2, e3]
      have hu : usesJ c = true := by rw [← tJ_eq]; exact hj
      go_enter Try.func46, Try.ntmps46
      go_wp2_with fail
      refine (uses_any c _).mono ?_
      rintro e w1 ⟨rfl, G⟩
      have G1 := grown_trans G0 G
      have C0 := cv_lit w 46 [.int .u16 c, .int .u8 t, .int .u8 f, .int .u32 k]
      have y1 : w1.cell? ⟨w.heap.size, 1, none⟩ = some (.int .u8 (t : Int)) := G.cell (C0.2 _ rfl 1 (by simp)) (by simp)
      have y2 : w1.cell? ⟨w.heap.size, 2, none⟩ = some (.int .u8 (f : Int)) := G.cell (C0.2 _ rfl 2 (by simp)) (by simp)
      clear C0
      clear G G0
      have x1 : IntKind.u32.wrap (t : Int) = t := by rw [IntKind.wrap_u32]; omega
      have x2 : IntKind.u32.wrap (f : Int) = f := by rw [IntKind.wrap_u32]; omega
      go_wp2
      go_quiet (fail)
      go_wp2
      go_ret3
      exact ⟨rfl, grown_trans G1 (grown_drewN _ _ none)⟩
    | false =>
      have e1 : yesV c t k = 0 := by rw [yesV, if_neg (by rw [h5]; simp), if_neg (by rw [hj]; simp)]
      have e2 : noV c f k = 0 := by rw [noV, if_neg (by rw [h5]; simp), if_neg (by rw [hj]; simp)]
      have e3 : leapB c = false := by rw [leapB, h5, hj]; rfl
      rw [e1, e2, e3]
      have hu : usesJ c = false := by rw [← tJ_eq]; exact hj
      go_enter Try.func46, Try.ntmps46
      go_wp2_with fail
      refine (uses_any c _).mono ?_
      rintro e w1 ⟨rfl, G⟩
      have G1 := grown_trans G0 G
      clear G G0
      go_wp2
      go_ret3
      exact ⟨rfl, G1⟩

theorem goals_bad (c : Int) (t f k room : Nat) : (leapB c && (decide (room ≤ yesV c t k) || decide (room ≤ noV c f k))) = jumpBad c t f k room := by
  unfold leapB yesV noV jumpBad
  cases h5 : (c == 5) with
  | true =>
    have hj := jump_not5 h5
    simp [hj]
  | false => cases hj : jumpB c <;> simp

/-- The five questions. -/
def askB (n at' : Nat) (x : In) : Nat → Bool
  | 0 => !knownB x.code.toNat
  | 1 => memB x.code.toNat && decide (16 ≤ x.k.toNat)
  | 2 => divB x.code.toNat && x.k.toNat == 0
  | 3 => shfB x.code.toNat && decide (31 < x.k.toNat)
  | _ => jumpBad x.code.toNat x.jt.toNat x.jf.toNat x.k.toNat (n - 1 - at')
def askE (q : Nat) : Int := 42 + q
def askN : Nat → Nat
  | 0 => 39
  | 1 => 41
  | 2 => 43
  | 3 => 44
  | _ => 45
def askC (b : Nat) : Nat → Array Value
  | 4 => #[.pointer (some ⟨b, 0, none⟩)]
  | _ => #[]

/-- Which question is the first to be answered by yes, from one on. -/
def hitQ (n at' : Nat) (x : In) (q : Nat) : Int := if q < 5 then (if askB n at' x q = true then askE q else hitQ n at' x (q + 1)) else 0
termination_by 5 - q

theorem pick5 (kb mb db sb jb : Bool) : (if (!kb) = true then (42 : Int) else if mb = true then 43 else if db = true then 44 else if sb = true then 45 else if jb = true then 46 else 0) = if (if kb = false then (42 : Int) else if mb = true then 43 else if db = true then 44 else if sb = true then 45 else 0) = 0 then (if jb = true then 46 else 0) else (if kb = false then (42 : Int) else if mb = true then 43 else if db = true then 44 else if sb = true then 45 else 0) := by
  cases kb <;> cases mb <;> cases db <;> cases sb <;> cases jb <;> rfl

theorem hitQ_bad (n at' : Nat) (x : In) : hitQ n at' x 0 = badV n at' x := by
  have s1 : ∀ q, q < 5 → hitQ n at' x q = if askB n at' x q = true then askE q else hitQ n at' x (q + 1) := fun q hq => by rw [hitQ, if_pos hq]
  have s2 : hitQ n at' x (0 + 1 + 1 + 1 + 1 + 1) = 0 := by rw [hitQ, if_neg (by decide)]
  rw [s1 0 (by decide), s1 (0 + 1) (by decide), s1 (0 + 1 + 1) (by decide), s1 (0 + 1 + 1 + 1) (by decide), s1 (0 + 1 + 1 + 1 + 1) (by decide), s2]
  exact pick5 (knownB x.code.toNat) (memB x.code.toNat && decide (16 ≤ x.k.toNat)) (divB x.code.toNat && x.k.toNat == 0) (shfB x.code.toNat && decide (31 < x.k.toNat)) (jumpBad x.code.toNat x.jt.toNat x.jf.toNat x.k.toNat (n - 1 - at'))

theorem askN_enters (q : Nat) : ∀ args w, (callFunc (askN q) args).run Try.prog w = .ok (.enter (askN q) args) w := by
  unfold askN
  split
  · exact enters_of Try.func39 (by kernel_rfl) rfl
  · exact enters_of Try.func41 (by kernel_rfl) rfl
  · exact enters_of Try.func43 (by kernel_rfl) rfl
  · exact enters_of Try.func44 (by kernel_rfl) rfl
  · exact enters_of Try.func45 (by kernel_rfl) rfl

end Go.Proofs.Ythffbogejcbdiaa
