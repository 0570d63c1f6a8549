/-
  Package check as landed: which codes use the words of scratch, which return, where jumps go, and the five questions. Package check as landed: the five questions walked, and the row of them.
-/
import Derived.Test.YtencoknpocipbaaLotP3
import Derived.Test.YtencoknpocipbaaLotP6
import Derived.Shelf.Abstract
namespace Go.Proofs.Ytencoknpocipbaa
open Go.RowKit
set_option maxRecDepth 100000

theorem class_ret (c : Int) : (classV c == 6) = retB c := by
  cases hk : knownB c with
  | false =>
    have h6 : retB c = false := by
      cases h : retB c with
      | false => rfl
      | true =>
        simp only [retB, Bool.or_eq_true, beq_iff_eq] at h
        rcases h with rfl | rfl <;> (revert hk; decide)
    rw [h6, classV, hk]
    rfl
  | true => exact eq_of_beq (known_all (fun c => (classV c == 6) == retB c) (by decide +kernel) hk)

set_option maxHeartbeats 400000 in
theorem scratch_any (c : Int) (t f k : Nat) (w : World) :
    Calls Try.prog 45 #[.agg #[.int .u16 c, .int .u8 t, .int .u8 f, .int .u32 k]] w fun e w' => e = .returned (.bool (memB c)) ∧ w.grownBy w' none := by
  go_enter Try.func45, Try.ntmps45
  go_wp2
  all_goals
    go_ret
    exact ⟨ret_bool (by simp [memB, *]), World.grownBy_alloc _ _ _⟩

set_option maxHeartbeats 400000 in
theorem returns_any (c : Int) (t f k : Nat) (w : World) (h0 : 0 ≤ c) (h1 : c ≤ 65535) :
    Calls Try.prog 15 #[.agg #[.int .u16 c, .int .u8 t, .int .u8 f, .int .u32 k]] w fun e w' => e = .returned (.bool (retB c)) ∧ w.grownBy w' none := by
  have G0 : w.grownBy (w.alloc (.cells #[.int .u16 c, .int .u8 t, .int .u8 f, .int .u32 k] 46)) none := World.grownBy_alloc _ _ _
  go_enter Try.func15, Try.ntmps15
  go_wp2_with fail
  refine (class_any c _ h0 h1).mono ?_
  rintro e w' ⟨rfl, G⟩
  go_wp2
  go_ret
  exact ⟨ret_bool (class_ret c), grown_trans G0 G⟩

/-- How many instructions a jump leaves out, either way. -/
def yesV (c : Int) (t k : Nat) : Nat := if (c == 5) = true then k else if jumpB c = true then t else 0
def noV (c : Int) (f k : Nat) : Nat := if (c == 5) = true then k else if jumpB c = true then f else 0
def leapB (c : Int) : Bool := c == 5 || jumpB c

set_option maxHeartbeats 1000000 in
theorem leaps_any (c : Int) (t f k : Nat) (w : World) (ht : t < 256) (hf : f < 256) :
    Calls Try.prog 49 #[.agg #[.int .u16 c, .int .u8 t, .int .u8 f, .int .u32 k]] w fun e w' => e = .returned (.tuple #[.int .u32 (yesV c t k : Int), .int .u32 (noV c f k : Int), .bool (leapB c)]) ∧ w.grownBy w' none := by
  have G0 : w.grownBy (w.alloc (.cells #[.int .u16 c, .int .u8 t, .int .u8 f, .int .u32 k] 46)) none := World.grownBy_alloc _ _ _
  cases h5 : (c == 5) with
  | true =>
    have e1 : yesV c t k = k := by rw [yesV, if_pos h5]
    have e2 : noV c f k = k := by rw [noV, if_pos h5]
    have e3 : leapB c = true := by rw [leapB, h5]; rfl
    rw [e1, e2, e3]
    go_enter Try.func49, Try.ntmps49
    go_wp2
    go_quiet (fail)
    go_wp2
    go_ret3
    exact ⟨rfl, grown_trans G0 (grown_drewN _ _ none)⟩
  | false =>
    cases hj : jumpB c with
    | true =>
      have e1 : yesV c t k = t := by rw [yesV, if_neg (by rw [h5]; simp), if_pos hj]
      have e2 : noV c f k = f := by rw [noV, if_neg (by rw [h5]; simp), if_pos hj]
      have e3 : leapB c = true := by rw [leapB, h5, hj]; rfl
      rw [e1, e2, e3]
      have hu : usesJ c = true := by rw [← tJ_eq]; exact hj
      go_enter Try.func49, Try.ntmps49
      go_wp2_with fail
      refine (uses_any c _).mono ?_
      rintro e w1 ⟨rfl, G⟩
      have G1 := grown_trans G0 G
      have C0 := cv_lit w 46 [.int .u16 c, .int .u8 t, .int .u8 f, .int .u32 k]
      have y1 : w1.cell? ⟨w.heap.size, 1, none⟩ = some (.int .u8 (t : Int)) := G.cell (C0.2 _ rfl 1 (by simp)) (by simp)
      have y2 : w1.cell? ⟨w.heap.size, 2, none⟩ = some (.int .u8 (f : Int)) := G.cell (C0.2 _ rfl 2 (by simp)) (by simp)
      clear C0
      clear G G0
      have x1 : IntKind.u32.wrap (t : Int) = t := by rw [IntKind.wrap_u32]; omega
      have x2 : IntKind.u32.wrap (f : Int) = f := by rw [IntKind.wrap_u32]; omega
      go_wp2
      go_quiet (fail)
      go_wp2
      go_ret3
      exact ⟨rfl, grown_trans G1 (grown_drewN _ _ none)⟩
    | false =>
      have e1 : yesV c t k = 0 := by rw [yesV, if_neg (by rw [h5]; simp), if_neg (by rw [hj]; simp)]
      have e2 : noV c f k = 0 := by rw [noV, if_neg (by rw [h5]; simp), if_neg (by rw [hj]; simp)]
      have e3 : leapB c = false := by rw [leapB, h5, hj]; rfl
      rw [e1, e2, e3]
      have hu : usesJ c = false := by rw [← tJ_eq]; exact hj
      go_enter Try.func49, Try.ntmps49
      go_wp2_with fail
      refine (uses_any c _).mono ?_
      rintro e w1 ⟨rfl, G⟩
      have G1 := grown_trans G0 G
      clear G G0
      go_wp2
      go_ret3
      exact ⟨rfl, G1⟩

theorem goals_bad (c : Int) (t f k room : Nat) : (leapB c && (decide (room ≤ yesV c t k) || decide (room ≤ noV c f k))) = jumpBad c t f k room := by
  unfold leapB yesV noV jumpBad
  cases h5 : (c == 5) with
  | true =>
    have hj := jump_not5 h5
    simp [hj]
  | false => cases hj : jumpB c <;> simp

/-- The five questions. -/
def askB (n at' : Nat) (x : In) : Nat → Bool
  | 0 => !knownB x.code.toNat
  | 1 => memB x.code.toNat && decide (16 ≤ x.k.toNat)
  | 2 => divB x.code.toNat && x.k.toNat == 0
  | 3 => shfB x.code.toNat && decide (31 < x.k.toNat)
  | _ => jumpBad x.code.toNat x.jt.toNat x.jf.toNat x.k.toNat (n - 1 - at')
def askE (q : Nat) : Int := 42 + q
def askN : Nat → Nat
  | 0 => 42
  | 1 => 44
  | 2 => 46
  | 3 => 47
  | _ => 48
def askC (b : Nat) : Nat → Array Value
  | 4 => #[.pointer (some ⟨b, 0, none⟩)]
  | _ => #[]

/-- Which question is the first to be answered by yes, from one on. -/
def hitQ (n at' : Nat) (x : In) (q : Nat) : Int := if q < 5 then (if askB n at' x q = true then askE q else hitQ n at' x (q + 1)) else 0
termination_by 5 - q

theorem pick5 (kb mb db sb jb : Bool) : (if (!kb) = true then (42 : Int) else if mb = true then 43 else if db = true then 44 else if sb = true then 45 else if jb = true then 46 else 0) = if (if kb = false then (42 : Int) else if mb = true then 43 else if db = true then 44 else if sb = true then 45 else 0) = 0 then (if jb = true then 46 else 0) else (if kb = false then (42 : Int) else if mb = true then 43 else if db = true then 44 else if sb = true then 45 else 0) := by
  cases kb <;> cases mb <;> cases db <;> cases sb <;> cases jb <;> rfl

theorem hitQ_bad (n at' : Nat) (x : In) : hitQ n at' x 0 = badV n at' x := by
  have s1 : ∀ q, q < 5 → hitQ n at' x q = if askB n at' x q = true then askE q else hitQ n at' x (q + 1) := fun q hq => by rw [hitQ, if_pos hq]
  have s2 : hitQ n at' x (0 + 1 + 1 + 1 + 1 + 1) = 0 := by rw [hitQ, if_neg (by decide)]
  rw [s1 0 (by decide), s1 (0 + 1) (by decide), s1 (0 + 1 + 1) (by decide), s1 (0 + 1 + 1 + 1) (by decide), s1 (0 + 1 + 1 + 1 + 1) (by decide), s2]
  exact pick5 (knownB x.code.toNat) (memB x.code.toNat && decide (16 ≤ x.k.toNat)) (divB x.code.toNat && x.k.toNat == 0) (shfB x.code.toNat && decide (31 < x.k.toNat)) (jumpBad x.code.toNat x.jt.toNat x.jf.toNat x.k.toNat (n - 1 - at'))

theorem askN_enters (q : Nat) : ∀ args w, (callFunc (askN q) args).run Try.prog w = .ok (.enter (askN q) args) w := by
  unfold askN
  split
  · exact enters_of Try.func42 (by kernel_rfl) rfl
  · exact enters_of Try.func44 (by kernel_rfl) rfl
  · exact enters_of Try.func46 (by kernel_rfl) rfl
  · exact enters_of Try.func47 (by kernel_rfl) rfl
  · exact enters_of Try.func48 (by kernel_rfl) rfl

end Go.Proofs.Ytencoknpocipbaa

namespace Go.Proofs.Ytencoknpocipbaa
open Go.RowKit
set_option maxRecDepth 100000

set_option maxHeartbeats 400000 in
theorem q1_any (at' c t f k : Nat) (w : World) :
    Calls Try.prog 42 #[.int .i64 (at' : Int), .agg #[.int .u16 (c : Int), .int .u8 t, .int .u8 f, .int .u32 k]] w fun e w' => e = .returned (.bool (!knownB c)) ∧ w.grownBy w' none := by
  have G0 : w.grownBy (w.alloc (.cells #[.int .u16 (c : Int), .int .u8 t, .int .u8 f, .int .u32 k] 46)) none := World.grownBy_alloc _ _ _
  go_enter Try.func42, Try.ntmps42
  go_wp2_with fail
  refine (known_any c _).mono ?_
  rintro e w' ⟨rfl, G⟩
  go_wp2
  go_ret
  exact ⟨rfl, grown_trans G0 G⟩

set_option maxHeartbeats 400000 in
theorem q2_any (at' c t f k : Nat) (w : World) :
    Calls Try.prog 44 #[.int .i64 (at' : Int), .agg #[.int .u16 (c : Int), .int .u8 t, .int .u8 f, .int .u32 k]] w fun e w' => e = .returned (.bool (memB c && decide (16 ≤ k))) ∧ w.grownBy w' none := by
  have G0 : w.grownBy (w.alloc (.cells #[.int .u16 (c : Int), .int .u8 t, .int .u8 f, .int .u32 k] 46)) none := World.grownBy_alloc _ _ _
  have e16 : decide (16 ≤ k) = decide ((16 : Int) ≤ (k : Int)) := by simp only [decide_eq_decide]; omega
  rw [e16]
  cases hm : memB c with
  | false =>
    go_enter Try.func44, Try.ntmps44
    go_wp2_with fail
    refine (scratch_any c t f k _).mono ?_
    rintro e w1 ⟨rfl, G⟩
    rw [hm]
    go_wp2
    go_ret
    exact ⟨rfl, grown_trans G0 G⟩
  | true =>
    go_enter Try.func44, Try.ntmps44
    go_wp2_with fail
    refine (scratch_any c t f k _).mono ?_
    rintro e w1 ⟨rfl, G⟩
    rw [hm]
    have y3 : w1.cell? ⟨w.heap.size, 3, none⟩ = some (.int .u32 (k : Int)) := G.cell ((cv_lit w 46 [.int .u16 (c : Int), .int .u8 t, .int .u8 f, .int .u32 k]).2 _ rfl 3 (by simp)) (by simp)
    have G1 := grown_trans G0 G
    clear G0 G
    go_wp2
    go_ret
    exact ⟨rfl, G1⟩

set_option maxHeartbeats 400000 in
theorem q3_any (at' c t f k : Nat) (w : World) :
    Calls Try.prog 46 #[.int .i64 (at' : Int), .agg #[.int .u16 (c : Int), .int .u8 t, .int .u8 f, .int .u32 k]] w fun e w' => e = .returned (.bool (divB c && k == 0)) ∧ w.grownBy w' none := by
  have ek : (k == 0) = ((k : Int) == 0) := by
    by_cases h : k = 0
    · rw [h]; rfl
    · rw [beq_eq_false_iff_ne.2 h, beq_eq_false_iff_ne.2 (by omega)]
  rw [ek]
  cases h1 : ((c : Int) == 52) with
  | true =>
    go_enter Try.func46, Try.ntmps46
    go_wp2
    go_ret
    exact ⟨ret_bool (by simp [divB, h1]), World.grownBy_alloc _ _ _⟩
  | false =>
    cases h2 : ((c : Int) == 148) with
    | true =>
      go_enter Try.func46, Try.ntmps46
      go_wp2
      go_ret
      exact ⟨ret_bool (by simp [divB, h1, h2]), World.grownBy_alloc _ _ _⟩
    | false =>
      go_enter Try.func46, Try.ntmps46
      go_wp2
      go_ret
      exact ⟨ret_bool (by simp [divB, h1, h2]), World.grownBy_alloc _ _ _⟩

set_option maxHeartbeats 400000 in
theorem q4_any (at' c t f k : Nat) (w : World) :
    Calls Try.prog 47 #[.int .i64 (at' : Int), .agg #[.int .u16 (c : Int), .int .u8 t, .int .u8 f, .int .u32 k]] w fun e w' => e = .returned (.bool (shfB c && decide (31 < k))) ∧ w.grownBy w' none := by
  have ek : decide (31 < k) = decide ((31 : Int) < (k : Int)) := by simp only [decide_eq_decide]; omega
  rw [ek]
  cases h1 : ((c : Int) == 100) with
  | true =>
    go_enter Try.func47, Try.ntmps47
    go_wp2
    go_ret
    exact ⟨ret_bool (by simp [shfB, h1]), World.grownBy_alloc _ _ _⟩
  | false =>
    cases h2 : ((c : Int) == 116) with
    | true =>
      go_enter Try.func47, Try.ntmps47
      go_wp2
      go_ret
      exact ⟨ret_bool (by simp [shfB, h1, h2]), World.grownBy_alloc _ _ _⟩
    | false =>
      go_enter Try.func47, Try.ntmps47
      go_wp2
      go_ret
      exact ⟨ret_bool (by simp [shfB, h1, h2]), World.grownBy_alloc _ _ _⟩

set_option maxHeartbeats 1000000 in
theorem q5_any (at' c t f k b n : Nat) (w : World) (hc : w.cell? ⟨b, 0, none⟩ = some (.int .i64 (n : Int))) (ha : at' < n) (hn : n ≤ 4096) (ht : t < 256) (hf : f < 256) :
    Calls Try.prog 48 #[.int .i64 (at' : Int), .agg #[.int .u16 (c : Int), .int .u8 t, .int .u8 f, .int .u32 k], .pointer (some ⟨b, 0, none⟩)] w fun e w' => e = .returned (.bool (jumpBad c t f k (n - 1 - at'))) ∧ w.grownBy w' none := by
  have G0 : w.grownBy (w.alloc (.cells #[.int .u16 (c : Int), .int .u8 t, .int .u8 f, .int .u32 k] 46)) none := World.grownBy_alloc _ _ _
  have hc' := G0.cell hc (by simp)
  rw [← goals_bad]
  obtain ⟨room, hr⟩ : ∃ room : Nat, n - 1 - at' = room := ⟨_, rfl⟩
  rw [hr]
  have hr1 : IntKind.u32.wrap ((n : Int) - 1 - (at' : Int)) = (room : Int) := by rw [IntKind.wrap_u32]; omega
  have HR : Hid (n - 1 - at' = room) := hr
  clear hr
  cases hl : leapB c with
  | false =>
    go_enter Try.func48, Try.ntmps48
    go_wp2_with fail
    refine (leaps_any c t f k _ ht hf).mono ?_
    rintro e w1 ⟨rfl, G⟩
    have G1 := grown_trans G0 G
    clear G G0 hc hc' hr1
    rw [hl]
    go_wp2
    go_ret
    exact ⟨rfl, G1⟩
  | true =>
    go_enter Try.func48, Try.ntmps48
    go_wp2_with fail
    refine (leaps_any c t f k _ ht hf).mono ?_
    rintro e w1 ⟨rfl, G⟩
    have G1 := grown_trans G0 G
    clear G G0 hc hc' hr1
    rw [hl]
    go_wp2
    all_goals
      go_ret
      refine ⟨ret_bool ?_, G1⟩
      first
        | rfl
        | (simp; omega)

theorem ask_any (q n at' b : Nat) (x : In) (w : World) (hq : q < 5) (hc : w.cell? ⟨b, 0, none⟩ = some (.int .i64 (n : Int))) (ha : at' < n) (hn : n ≤ 4096) :
    Calls Try.prog (askN q) (#[.int .i64 (at' : Int), .agg #[.int .u16 (x.code.toNat : Int), .int .u8 (x.jt.toNat : Int), .int .u8 (x.jf.toNat : Int), .int .u32 (x.k.toNat : Int)]] ++ askC b q) w fun e w' => e = .returned (.bool (askB n at' x q)) ∧ w.grownBy w' none := by
  have hs : q = 0 ∨ q = 1 ∨ q = 2 ∨ q = 3 ∨ q = 4 := by omega
  rcases hs with rfl | rfl | rfl | rfl | rfl
  · exact q1_any at' _ _ _ _ w
  · exact q2_any at' _ _ _ _ w
  · exact q3_any at' _ _ _ _ w
  · exact q4_any at' _ _ _ _ w
  · exact q5_any at' _ _ _ _ b n w hc ha hn x.jt.toNat_lt x.jf.toNat_lt

/-- The row of questions, and the number that the last one has caught. -/
def RowAt (w : World) (g b n : Nat) : Prop := (∀ q, q < 5 → w.cell? ⟨g, q * 2, none⟩ = some (.int .i64 (askE q)) ∧ w.cell? ⟨g, q * 2 + 1, none⟩ = some (.func (.func (askN q)) #[] (askC b q))) ∧ w.cell? ⟨b, 0, none⟩ = some (.int .i64 (n : Int))
theorem RowAt.grown {w w' : World} {g b n : Nat} (h : RowAt w g b n) (G : w.grownBy w' none) : RowAt w' g b n :=
  ⟨fun q hq => ⟨G.cell (h.1 q hq).1 (by simp), G.cell (h.1 q hq).2 (by simp)⟩, G.cell h.2 (by simp)⟩

set_option maxHeartbeats 1000000 in
theorem questions_any (n : Nat) (w : World) :
    Calls Try.prog 27 #[.int .i64 (n : Int)] w fun e w' => ∃ g b, e = .returned (.slice (some ⟨g, 0, none⟩) 5 5) ∧ RowAt w' g b n ∧ w.grownBy w' none := by
  go_enter Try.func27, Try.ntmps27
  go_wp2
  go_ret
  have C1 := cv_lit w 3 [.int .i64 (n : Int)]
  have C2 := cv_lit (w.alloc (.cells #[.int .i64 (n : Int)] 3)) 75 [.int .i64 42, .func (.func 42) #[] #[], .int .i64 43, .func (.func 44) #[] #[], .int .i64 44, .func (.func 46) #[] #[], .int .i64 45, .func (.func 47) #[] #[], .int .i64 46, .func (.func 48) #[] #[.pointer (some ⟨w.heap.size, 0, none⟩)]]
  have K2 := World.grownBy_alloc (w.alloc (.cells #[.int .i64 (n : Int)] 3)) (.cells #[.int .i64 42, .func (.func 42) #[] #[], .int .i64 43, .func (.func 44) #[] #[], .int .i64 44, .func (.func 46) #[] #[], .int .i64 45, .func (.func 47) #[] #[], .int .i64 46, .func (.func 48) #[] #[.pointer (some ⟨w.heap.size, 0, none⟩)]] 75) none
  have G2 := grown_trans (World.grownBy_alloc w (.cells #[.int .i64 (n : Int)] 3) none) K2
  have hz : (w.alloc (.cells #[.int .i64 (n : Int)] 3)).heap.size = w.heap.size + 1 := by simp
  rw [hz] at C2
  have hb := K2.cell (C1.2 _ rfl 0 (by simp)) (by simp)
  refine ⟨_, w.heap.size, rfl, ⟨fun q hq => ?_, ?_⟩, ?_⟩
  · have hs : q = 0 ∨ q = 1 ∨ q = 2 ∨ q = 3 ∨ q = 4 := by omega
    rcases hs with rfl | rfl | rfl | rfl | rfl
    · exact ⟨C2.2 _ rfl 0 (by simp), C2.2 _ rfl 1 (by simp)⟩
    · exact ⟨C2.2 _ rfl 2 (by simp), C2.2 _ rfl 3 (by simp)⟩
    · exact ⟨C2.2 _ rfl 4 (by simp), C2.2 _ rfl 5 (by simp)⟩
    · exact ⟨C2.2 _ rfl 6 (by simp), C2.2 _ rfl 7 (by simp)⟩
    · exact ⟨C2.2 _ rfl 8 (by simp), C2.2 _ rfl 9 (by simp)⟩
  · exact hb
  · exact G2

end Go.Proofs.Ytencoknpocipbaa
