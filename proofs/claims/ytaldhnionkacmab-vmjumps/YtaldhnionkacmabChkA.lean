/-
  Package check as landed: which codes use the words of scratch, which return, where jumps go, and the five questions.
-/
import Derived.Test.YtaldhnionkacmabChk2
import Derived.Test.YtaldhnionkacmabTold
import Derived.Shelf.Abstract
namespace Go.Proofs.Ytaldhnionkacmab
open Go.RowKit
set_option maxRecDepth 100000

theorem class_ret (c : Int) : (classV c == 6) = retB c := by
  cases hk : knownB c with
  | false =>
    have h6 : retB c = false := by
      cases h : retB c with
      | false => rfl
      | true =>
        simp only [retB, Bool.or_eq_true, beq_iff_eq] at h
        rcases h with rfl | rfl <;> (revert hk; decide)
    rw [h6, classV, hk]
    rfl
  | true => exact eq_of_beq (known_all (fun c => (classV c == 6) == retB c) (by decide +kernel) hk)

set_option maxHeartbeats 400000 in
theorem scratch_any (c : Int) (t f k : Nat) (w : World) :
    Calls Try.prog 36 #[.agg #[.int .u16 c, .int .u8 t, .int .u8 f, .int .u32 k]] w fun e w' => e = .returned (.bool (memB c)) ∧ w.grownBy w' none := by
  go_enter Try.func36, Try.ntmps36
  go_wp2
  all_goals
    go_ret
    exact ⟨ret_bool (by simp [memB, *]), World.grownBy_alloc _ _ _⟩

set_option maxHeartbeats 400000 in
theorem returns_any (c : Int) (t f k : Nat) (w : World) (h0 : 0 ≤ c) (h1 : c ≤ 65535) :
    Calls Try.prog 21 #[.agg #[.int .u16 c, .int .u8 t, .int .u8 f, .int .u32 k]] w fun e w' => e = .returned (.bool (retB c)) ∧ w.grownBy w' none := by
  have G0 : w.grownBy (w.alloc (.cells #[.int .u16 c, .int .u8 t, .int .u8 f, .int .u32 k] 27)) none := World.grownBy_alloc _ _ _
  go_enter Try.func21, Try.ntmps21
  go_wp2_with fail
  refine (class_any c _ h0 h1).mono ?_
  rintro e w' ⟨rfl, G⟩
  go_wp2
  go_ret
  exact ⟨ret_bool (class_ret c), grown_trans G0 G⟩

/-- How many instructions a jump leaves out, either way. -/
def yesV (c : Int) (t k : Nat) : Nat := if (c == 5) = true then k else if jumpB c = true then t else 0
def noV (c : Int) (f k : Nat) : Nat := if (c == 5) = true then k else if jumpB c = true then f else 0
def leapB (c : Int) : Bool := c == 5 || jumpB c

set_option maxHeartbeats 1000000 in
theorem leaps_any (c : Int) (t f k : Nat) (w : World) (ht : t < 256) (hf : f < 256) :
    Calls Try.prog 40 #[.agg #[.int .u16 c, .int .u8 t, .int .u8 f, .int .u32 k]] w fun e w' => e = .returned (.tuple #[.int .u32 (yesV c t k : Int), .int .u32 (noV c f k : Int), .bool (leapB c)]) ∧ w.grownBy w' none := by
  have G0 : w.grownBy (w.alloc (.cells #[.int .u16 c, .int .u8 t, .int .u8 f, .int .u32 k] 27)) none := World.grownBy_alloc _ _ _
  cases h5 : (c == 5) with
  | true =>
    have e1 : yesV c t k = k := by rw [yesV, if_pos h5]
    have e2 : noV c f k = k := by rw [noV, if_pos h5]
    have e3 : leapB c = true := by rw [leapB, h5]; rfl
    rw [e1, e2, e3]
    go_enter Try.func40, Try.ntmps40
    go_wp2
    go_quiet (fail)
    go_wp2
    go_ret3
    exact ⟨rfl, grown_trans G0 (grown_drewN _ _ none)⟩
  | false =>
    cases hj : jumpB c with
    | true =>
      have e1 : yesV c t k = t := by rw [yesV, if_neg (by rw [h5]; simp), if_pos hj]
      have e2 : noV c f k = f := by rw [noV, if_neg (by rw [h5]; simp), if_pos hj]
      have e3 : leapB c = true := by rw [leapB, h5, hj]; rfl
      rw [e1, e2, e3]
      have hu : usesJ c = true := by rw [← tJ_eq]; exact hj
      go_enter Try.func40, Try.ntmps40
      go_wp2_with fail
      refine (uses_any c _).mono ?_
      rintro e w1 ⟨rfl, G⟩
      have G1 := grown_trans G0 G
      have C0 := cv_lit w 27 [.int .u16 c, .int .u8 t, .int .u8 f, .int .u32 k]
      have y1 : w1.cell? ⟨w.heap.size, 1, none⟩ = some (.int .u8 (t : Int)) := G.cell (C0.2 _ rfl 1 (by simp)) (by simp)
      have y2 : w1.cell? ⟨w.heap.size, 2, none⟩ = some (.int .u8 (f : Int)) := G.cell (C0.2 _ rfl 2 (by simp)) (by simp)
      clear C0
      clear G G0
      have x1 : IntKind.u32.wrap (t : Int) = t := by rw [IntKind.wrap_u32]; omega
      have x2 : IntKind.u32.wrap (f : Int) = f := by rw [IntKind.wrap_u32]; omega
      go_wp2
      go_quiet (fail)
      go_wp2
      go_ret3
      exact ⟨rfl, grown_trans G1 (grown_drewN _ _ none)⟩
    | false =>
      have e1 : yesV c t k = 0 := by rw [yesV, if_neg (by rw [h5]; simp), if_neg (by rw [hj]; simp)]
      have e2 : noV c f k = 0 := by rw [noV, if_neg (by rw [h5]; simp), if_neg (by rw [hj]; simp)]
      have e3 : leapB c = false := by rw [leapB, h5, hj]; rfl
      rw [e1, e2, e3]
      have hu : usesJ c = false := by rw [← tJ_eq]; exact hj
      go_enter Try.func40, Try.ntmps40
      go_wp2_with fail
      refine (uses_any c _).mono ?_
      rintro e w1 ⟨rfl, G⟩
      have G1 := grown_trans G0 G
      clear G G0
      go_wp2
      go_ret3
      exact ⟨rfl, G1⟩

theorem goals_bad (c : Int) (t f k room : Nat) : (leapB c && (decide (room ≤ yesV c t k) || decide (room ≤ noV c f k))) = jumpBad c t f k room := by
  unfold leapB yesV noV jumpBad
  cases h5 : (c == 5) with
  | true =>
    have hj := jump_not5 h5
    simp [hj]
  | false => cases hj : jumpB c <;> simp

/-- The five questions. -/
def askB (n at' : Nat) (x : In) : Nat → Bool
  | 0 => !knownB x.code.toNat
  | 1 => memB x.code.toNat && decide (16 ≤ x.k.toNat)
  | 2 => divB x.code.toNat && x.k.toNat == 0
  | 3 => shfB x.code.toNat && decide (31 < x.k.toNat)
  | _ => jumpBad x.code.toNat x.jt.toNat x.jf.toNat x.k.toNat (n - 1 - at')
def askE (q : Nat) : Int := 42 + q
def askN : Nat → Nat
  | 0 => 34
  | 1 => 35
  | 2 => 37
  | 3 => 38
  | _ => 39
def askC (b : Nat) : Nat → Array Value
  | 4 => #[.pointer (some ⟨b, 0, none⟩)]
  | _ => #[]

/-- Which question is the first to be answered by yes, from one on. -/
def hitQ (n at' : Nat) (x : In) (q : Nat) : Int := if q < 5 then (if askB n at' x q = true then askE q else hitQ n at' x (q + 1)) else 0
termination_by 5 - q

theorem pick5 (kb mb db sb jb : Bool) : (if (!kb) = true then (42 : Int) else if mb = true then 43 else if db = true then 44 else if sb = true then 45 else if jb = true then 46 else 0) = if (if kb = false then (42 : Int) else if mb = true then 43 else if db = true then 44 else if sb = true then 45 else 0) = 0 then (if jb = true then 46 else 0) else (if kb = false then (42 : Int) else if mb = true then 43 else if db = true then 44 else if sb = true then 45 else 0) := by
  cases kb <;> cases mb <;> cases db <;> cases sb <;> cases jb <;> rfl

theorem hitQ_bad (n at' : Nat) (x : In) : hitQ n at' x 0 = badV n at' x := by
  have s1 : ∀ q, q < 5 → hitQ n at' x q = if askB n at' x q = true then askE q else hitQ n at' x (q + 1) := fun q hq => by rw [hitQ, if_pos hq]
  have s2 : hitQ n at' x (0 + 1 + 1 + 1 + 1 + 1) = 0 := by rw [hitQ, if_neg (by decide)]
  rw [s1 0 (by decide), s1 (0 + 1) (by decide), s1 (0 + 1 + 1) (by decide), s1 (0 + 1 + 1 + 1) (by decide), s1 (0 + 1 + 1 + 1 + 1) (by decide), s2]
  exact pick5 (knownB x.code.toNat) (memB x.code.toNat && decide (16 ≤ x.k.toNat)) (divB x.code.toNat && x.k.toNat == 0) (shfB x.code.toNat && decide (31 < x.k.toNat)) (jumpBad x.code.toNat x.jt.toNat x.jf.toNat x.k.toNat (n - 1 - at'))

theorem askN_enters (q : Nat) : ∀ args w, (callFunc (askN q) args).run Try.prog w = .ok (.enter (askN q) args) w := by
  unfold askN
  split
  · exact enters_of Try.func34 (by kernel_rfl) rfl
  · exact enters_of Try.func35 (by kernel_rfl) rfl
  · exact enters_of Try.func37 (by kernel_rfl) rfl
  · exact enters_of Try.func38 (by kernel_rfl) rfl
  · exact enters_of Try.func39 (by kernel_rfl) rfl

end Go.Proofs.Ytaldhnionkacmab
