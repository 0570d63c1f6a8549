/-
  The blocks of a program, place by place: what the document's own Of goes by. No Go text here. The program's own Get. The landed machine: what the instructions do, each by itself.
-/
import Derived.Test.YtencoknpocipbaaGreatLotP30
import Derived.Test.YtencoknpocipbaaGreatLotP2
import Derived.Test.YtencoknpocipbaaGreatLotP7
namespace Go.Proofs.YtencoknpocipbaaGreat
open Go.RowKit
set_option maxRecDepth 100000

theorem getD_setT (bs : List Bool) (i j : Nat) (h : bs.getD j false = true) : (bs.set i true).getD j false = true := by
  rw [List.getD_eq_getElem?_getD, List.getElem?_set]
  by_cases e : i = j
  · subst e
    have hl : i < bs.length := by
      apply Classical.byContradiction
      intro hn
      rw [List.getD_eq_getElem?_getD, List.getElem?_eq_none (by omega)] at h
      cases h
    simp [hl]
  · rw [if_neg e, ← List.getD_eq_getElem?_getD]
    exact h
theorem getD_setS (bs : List Bool) (i : Nat) (h : i < bs.length) : (bs.set i true).getD i false = true := by
  rw [List.getD_eq_getElem?_getD, List.getElem?_set]
  simp [h]
theorem getD_setN (bs : List Bool) {i j : Nat} (h : i ≠ j) : (bs.set i true).getD j false = bs.getD j false := by
  rw [List.getD_eq_getElem?_getD, List.getElem?_set, if_neg h, ← List.getD_eq_getElem?_getD]

theorem begStep_mono (x : In) (i : Nat) (bs : List Bool) (j : Nat) (h : bs.getD j false = true) : (begStep x i bs).getD j false = true := by
  unfold begStep
  split
  · exact h
  · split
    · exact getD_setT _ _ _ (getD_setT _ _ _ (getD_setT _ _ _ h))
    · exact getD_setT _ _ _ h
theorem begStep_mark (x : In) (i : Nat) (bs : List Bool) (hl : i + 1 < bs.length) (h : leavesB x = true) : (begStep x i bs).getD (i + 1) false = true := by
  rw [begStep, if_neg (by rw [h]; simp)]
  split
  · exact getD_setT _ _ _ (getD_setT _ _ _ (getD_setS _ _ hl))
  · exact getD_setS _ _ hl
theorem begTo_mono (xs : List In) {k m : Nat} (h : k ≤ m) (j : Nat) (hj : (begTo xs k).getD j false = true) : (begTo xs m).getD j false = true := by
  induction m with
  | zero => have : k = 0 := by omega
            subst this; exact hj
  | succ m ih =>
    by_cases hk : k = m + 1
    · subst hk; exact hj
    · have h1 := ih (by omega)
      rw [begTo]
      cases xs[m]? with
      | none => exact h1
      | some x => exact begStep_mono x m _ j h1
/-- Behind a jump or a return a block begins. -/
theorem beg_behind {xs : List In} {i : Nat} (hi : i < xs.length) (h : leavesB xs[i] = true) : (begTo xs xs.length).getD (i + 1) false = true := by
  refine begTo_mono xs (show i + 1 ≤ xs.length by omega) (i + 1) ?_
  rw [begTo_succ hi]
  exact begStep_mark _ _ _ (by rw [begTo_len]; omega) h

theorem num_same {bs : List Bool} {i : Nat} (h : bs.getD (i + 1) false = false) : numN bs (i + 1) = numN bs i := by rw [numN, if_neg (by rw [h]; simp), Nat.add_zero]
theorem num_more {bs : List Bool} {i : Nat} (h : bs.getD (i + 1) false = true) : numN bs (i + 1) = numN bs i + 1 := by rw [numN, if_pos h]
/-- What a place says, the first one marked. -/
theorem first_at (bs : List Bool) (i : Nat) : (bs.set 0 true).getD (i + 1) false = bs.getD (i + 1) false := getD_setN bs (by omega)

theorem of_same {xs : List In} {bs : List Bool} {i : Nat} (h : bs.getD (i + 1) false = false) : ofTo xs (numN bs) (i + 1) = ofTo xs (numN bs) i := by rw [ofTo, if_pos (num_same h)]
theorem of_more {xs : List In} {bs : List Bool} {i : Nat} (h : bs.getD (i + 1) false = true) (hi : i < xs.length) : ofTo xs (numN bs) (i + 1) = (i + 1, (ofTo xs (numN bs) i).2 ++ [blkV xs (numN bs) (ofTo xs (numN bs) i).1 i xs[i]]) := by
  rw [ofTo, if_neg (by rw [num_more h]; omega), getD_at hi]

/-- The last instruction of a program that is taken is a return. -/
theorem plain_next {xs : List In} (h : (checkV xs).2 = 0) {i : Nat} (hi : i < xs.length) (hp : leavesB xs[i] = false) : i + 1 < xs.length := by
  obtain ⟨-, -, -, hl⟩ := taken h
  have hr : retB xs[i].code.toNat = false := by
    rw [leavesB, class6_ret, Bool.or_eq_false_iff] at hp
    exact hp.2
  exact last_ret hl hi hr

/-- While a block's Code grows: from s on, up to i, no block begins. -/
structure OfI (xs : List In) (bs : List Bool) (s i : Nat) : Prop where
  le : s ≤ i
  lt : i < xs.length
  of : ofTo xs (numN bs) i = ofTo xs (numN bs) s
  at' : (ofTo xs (numN bs) s).1 = s
  no : s < i → bs.getD i false = false
theorem OfI.first {xs : List In} {bs : List Bool} {s : Nat} (h : s < xs.length) (ha : (ofTo xs (numN bs) s).1 = s) : OfI xs bs s s := ⟨Nat.le_refl _, h, rfl, ha, fun h => absurd h (Nat.lt_irrefl _)⟩
theorem OfI.next {xs : List In} {bs : List Bool} {s i : Nat} (h : OfI xs bs s i) (hi : i + 1 < xs.length) (hb : bs.getD (i + 1) false = false) : OfI xs bs s (i + 1) :=
  ⟨by have := h.le; omega, hi, (of_same hb).trans h.of, h.at', fun _ => hb⟩
/-- A block ends. -/
theorem OfI.over {xs : List In} {bs : List Bool} {s i : Nat} (h : OfI xs bs s i) (hb : bs.getD (i + 1) false = true) : ofTo xs (numN bs) (i + 1) = (i + 1, (ofTo xs (numN bs) s).2 ++ [blkV xs (numN bs) s i (xs[i]'h.lt)]) := by
  rw [of_more hb h.lt, h.of, h.at']

theorem take_more {xs : List In} {s i : Nat} (hs : s ≤ i) (hi : i < xs.length) : (xs.drop s).take (i + 1 - s) = (xs.drop s).take (i - s) ++ [xs[i]] := by
  have hl : i - s < (xs.drop s).length := by rw [List.length_drop]; omega
  rw [show i + 1 - s = (i - s) + 1 by omega, ← List.take_append_getElem hl]
  congr 2
  rw [List.getElem_drop]
  congr 1
  omega

end Go.Proofs.YtencoknpocipbaaGreat

namespace Go.Proofs.YtencoknpocipbaaGreat
open Go.RowKit
set_option maxRecDepth 100000

set_option maxHeartbeats 400000 in
theorem holds_any (a : Option Addr) (ca n : Nat) (p s : Int) (w : World) (hn : n ≤ 140737488355328) :
    Calls Tryz.prog 128 #[.slice a n ca, .int .i64 p, .int .i64 s] w fun e w' => e = .returned (.bool (okB n p s)) ∧ w = w' := by
  by_cases h : s = 1 ∨ s = 2 ∨ s = 4
  · rcases h with rfl | rfl | rfl
    all_goals
      go_enter Tryz.func128, Tryz.ntmps128
      go_wp2
      · go_ret
        exact ⟨ret_bool (okB_of (by omega)), rfl⟩
      · go_ret
        exact ⟨ret_bool (okB_no (by omega)), rfl⟩
  · have h1 : (s != 1) = true := by rw [bne_iff_ne]; omega
    have h2 : (s != 2) = true := by rw [bne_iff_ne]; omega
    have h3 : (s != 4) = true := by rw [bne_iff_ne]; omega
    go_enter Tryz.func128, Tryz.ntmps128
    go_wp2
    go_ret
    exact ⟨ret_bool (okB_no (by omega)), rfl⟩

set_option maxHeartbeats 400000 in
theorem get_any (a : Option Addr) (ca : Nat) (xs : List UInt8) (p s : Int) (w : World) (ha : Cells w a xs) (hn : xs.length ≤ 140737488355328) :
    Calls Tryz.prog 125 #[.slice a xs.length ca, .int .i64 p, .int .i64 s] w fun e w' => e = .returned (.tuple #[.int .u32 (getV xs p s), .bool (okB xs.length p s)]) ∧ w = w' := by
  cases hok : okB xs.length p s with
  | false =>
    go_enter Tryz.func125, Tryz.ntmps125
    go_wp2_with (go_at_call 128; refine (holds_any a ca xs.length p s _ hn).mono ?_; rintro e w' ⟨rfl, rfl⟩)
    go_ret2
    simp [getV, hok]
  | true =>
    have hy := okB_yes hok
    obtain ⟨P, rfl⟩ := Int.eq_ofNat_of_zero_le hy.2.1
    obtain ⟨S, rfl⟩ : ∃ S : Nat, s = S := ⟨s.toNat, by omega⟩
    have hS : S = 1 ∨ S = 2 ∨ S = 4 := by omega
    have hP : P + S ≤ xs.length := by omega
    clear hy
    go_enter Tryz.func125, Tryz.ntmps125
    go_wp2_with (go_at_call 128; refine (holds_any a ca xs.length P S _ hn).mono ?_; rintro e w' ⟨rfl, rfl⟩)
    go_loop [8, 16, 9] (fun v i _ => ∃ k : Nat, k ≤ S ∧ i = .int .i64 k ∧ v = .int .u32 (numAt xs P k)) (fun _ i _ => S - (intOf i).toNat)
    case atStart => exact ⟨0, Nat.zero_le _, rfl, rfl⟩
    case round =>
      obtain ⟨k, hk, rfl, rfl⟩ := hrel
      by_cases hlt : k < S
      · obtain ⟨b, o, rfl, h1⟩ := ha.addr (k := P + k) (by omega)
        have c1 := h1 (P + k) (by omega)
        clear ha h1
        go_wp2
        go_round
        case rel => exact ⟨k + 1, by omega, by go_num, numAt_step xs P k (by omega) (by omega)⟩
        case measure => simp [intOf]; omega
      · obtain rfl : k = S := by omega
        go_wp2
        go_ret2
        simp [getV, hok]

end Go.Proofs.YtencoknpocipbaaGreat

namespace Go.Proofs.YtencoknpocipbaaGreat
open Go.RowKit
set_option maxRecDepth 100000

theorem RAt.setA' {w : World} {g : Nat} {R : Rn} {z : Int} (h : RAt w g R) (v : Nat) (hz : z = (v : Int)) : RAt (w.setCell ⟨g, 0, none⟩ (.int .u32 z)) g { R with M := ⟨v, R.M.x, R.M.m⟩ } := by
  subst hz
  exact h.setA v
theorem RAt.setX' {w : World} {g : Nat} {R : Rn} {z : Int} (h : RAt w g R) (v : Nat) (hz : z = (v : Int)) : RAt (w.setCell ⟨g, 1, none⟩ (.int .u32 z)) g { R with M := ⟨R.M.a, v, R.M.m⟩ } := by
  subst hz
  exact h.setX v
theorem shl_far (a b : Nat) (h : 31 < b) : a * 2 ^ b % 4294967296 = 0 := by
  obtain ⟨c, rfl⟩ : ∃ c, b = 32 + c := ⟨b - 32, by omega⟩
  rw [Nat.pow_add, ← Nat.mul_assoc, Nat.mul_right_comm, show (2 : Nat) ^ 32 = 4294967296 by rfl]
  exact Nat.mul_mod_left _ _
theorem shr_far (a b : Nat) (ha : a ≤ 4294967295) (h : 31 < b) : a / 2 ^ b = 0 := by
  refine Nat.div_eq_of_lt ?_
  have : 2 ^ 32 ≤ 2 ^ b := Nat.pow_le_pow_right (by decide) (by omega)
  omega
theorem shiftV_left (a b : Nat) : a * 2 ^ (min b 32) % 4294967296 = shiftV a b true := by
  unfold shiftV
  by_cases h : 31 < b
  · rw [if_pos h, shl_far a _ (by omega)]
  · rw [if_neg h, if_pos rfl, Nat.min_eq_left (by omega)]
theorem shiftV_right (a b : Nat) (ha : a ≤ 4294967295) : a / 2 ^ (min b 32) = shiftV a b false := by
  unfold shiftV
  by_cases h : 31 < b
  · rw [if_pos h, shr_far a _ ha (by omega)]
  · rw [if_neg h, if_neg (by simp), Nat.min_eq_left (by omega)]

set_option maxHeartbeats 400000 in
theorem deed_setA (g k : Nat) (R : Rn) (w : World) (hr : RAt w g R) (hk : k ≤ 4294967295) (hM : R.M.ok) :
    Calls Tryz.prog 61 #[.pointer (some ⟨g, 0, none⟩), .int .u32 (k : Int)] w fun e w' => DeedPost w g R ⟨k, R.M.x, R.M.m⟩ R.f e w' := by
  have HR : Hid (RAt w g R) := hr
  have _hk : k ≤ 4294967295 := hk
  have _hM := hM
  have c0 := hr.a
  have c1 := hr.x
  have f0 := hr.free 0
  clear hr
  go_enter Tryz.func61, Tryz.ntmps61
  go_wp2
  (try simp only [Exit.inBlock, Exit.then]); (first | refine bodyPost_end (results_none rfl _ _ _) rfl ?_ | refine bodyPost_ret (results_none rfl _ _ _) rfl ?_)
  refine ⟨rfl, HR.out.setA' _ ?_, grown_set1 _ _ _⟩
  rfl

set_option maxHeartbeats 400000 in
theorem deed_setX (g k : Nat) (R : Rn) (w : World) (hr : RAt w g R) (hk : k ≤ 4294967295) (hM : R.M.ok) :
    Calls Tryz.prog 70 #[.pointer (some ⟨g, 0, none⟩), .int .u32 (k : Int)] w fun e w' => DeedPost w g R ⟨R.M.a, k, R.M.m⟩ R.f e w' := by
  have HR : Hid (RAt w g R) := hr
  have _hk : k ≤ 4294967295 := hk
  have _hM := hM
  have c0 := hr.a
  have c1 := hr.x
  have f1 := hr.free 1
  clear hr
  go_enter Tryz.func70, Tryz.ntmps70
  go_wp2
  (try simp only [Exit.inBlock, Exit.then]); (first | refine bodyPost_end (results_none rfl _ _ _) rfl ?_ | refine bodyPost_ret (results_none rfl _ _ _) rfl ?_)
  refine ⟨rfl, HR.out.setX' _ ?_, grown_set1 _ _ _⟩
  rfl

set_option maxHeartbeats 400000 in
theorem deed_recallA (g k : Nat) (R : Rn) (w : World) (hr : RAt w g R) (hk : k ≤ 4294967295) (hM : R.M.ok) (hq : k < 16) :
    Calls Tryz.prog 62 #[.pointer (some ⟨g, 0, none⟩), .int .u32 (k : Int)] w fun e w' => DeedPost w g R ⟨R.M.m.getD k 0, R.M.x, R.M.m⟩ R.f e w' := by
  have HR : Hid (RAt w g R) := hr
  have _hk : k ≤ 4294967295 := hk
  have _hM := hM
  have c0 := hr.a
  have c1 := hr.x
  have hb1 : (0 : Int) ≤ (k : Int) := by omega
  have hb2 : (k : Int) < 16 := by omega
  have cm := hr.m k hq
  have f0 := hr.free 0
  generalize R.M.m.getD k 0 = v at *
  clear hr
  go_enter Tryz.func62, Tryz.ntmps62
  go_wp2
  (try simp only [Exit.inBlock, Exit.then]); (first | refine bodyPost_end (results_none rfl _ _ _) rfl ?_ | refine bodyPost_ret (results_none rfl _ _ _) rfl ?_)
  refine ⟨rfl, HR.out.setA' _ ?_, grown_set1 _ _ _⟩
  rfl

set_option maxHeartbeats 400000 in
theorem deed_recallX (g k : Nat) (R : Rn) (w : World) (hr : RAt w g R) (hk : k ≤ 4294967295) (hM : R.M.ok) (hq : k < 16) :
    Calls Tryz.prog 71 #[.pointer (some ⟨g, 0, none⟩), .int .u32 (k : Int)] w fun e w' => DeedPost w g R ⟨R.M.a, R.M.m.getD k 0, R.M.m⟩ R.f e w' := by
  have HR : Hid (RAt w g R) := hr
  have _hk : k ≤ 4294967295 := hk
  have _hM := hM
  have c0 := hr.a
  have c1 := hr.x
  have hb1 : (0 : Int) ≤ (k : Int) := by omega
  have hb2 : (k : Int) < 16 := by omega
  have cm := hr.m k hq
  have f1 := hr.free 1
  generalize R.M.m.getD k 0 = v at *
  clear hr
  go_enter Tryz.func71, Tryz.ntmps71
  go_wp2
  (try simp only [Exit.inBlock, Exit.then]); (first | refine bodyPost_end (results_none rfl _ _ _) rfl ?_ | refine bodyPost_ret (results_none rfl _ _ _) rfl ?_)
  refine ⟨rfl, HR.out.setX' _ ?_, grown_set1 _ _ _⟩
  rfl

set_option maxHeartbeats 400000 in
theorem deed_keepA (g k : Nat) (R : Rn) (w : World) (hr : RAt w g R) (hk : k ≤ 4294967295) (hM : R.M.ok) (hq : k < 16) :
    Calls Tryz.prog 74 #[.pointer (some ⟨g, 0, none⟩), .int .u32 (k : Int)] w fun e w' => DeedPost w g R ⟨R.M.a, R.M.x, R.M.m.set k R.M.a⟩ R.f e w' := by
  have HR : Hid (RAt w g R) := hr
  have _hk : k ≤ 4294967295 := hk
  have _hM := hM
  have c0 := hr.a
  have c1 := hr.x
  have hb1 : (0 : Int) ≤ (k : Int) := by omega
  have hb2 : (k : Int) < 16 := by omega
  have cm := hr.m k hq
  have fm := hr.free (2 + k)
  clear hr
  go_enter Tryz.func74, Tryz.ntmps74
  go_region
  all_goals
    go_wp2
    (try simp only [Exit.inBlock, Exit.then]); (first | refine bodyPost_end (results_none rfl _ _ _) rfl ?_ | refine bodyPost_ret (results_none rfl _ _ _) rfl ?_)
    exact ⟨rfl, HR.out.setM k _ hq, grown_trans (grown_set1 w ⟨g, 2 + k, none⟩ (.int .u32 (R.M.a : Int))) (grown_drewN _ 1 (some g))⟩

set_option maxHeartbeats 400000 in
theorem deed_keepX (g k : Nat) (R : Rn) (w : World) (hr : RAt w g R) (hk : k ≤ 4294967295) (hM : R.M.ok) (hq : k < 16) :
    Calls Tryz.prog 75 #[.pointer (some ⟨g, 0, none⟩), .int .u32 (k : Int)] w fun e w' => DeedPost w g R ⟨R.M.a, R.M.x, R.M.m.set k R.M.x⟩ R.f e w' := by
  have HR : Hid (RAt w g R) := hr
  have _hk : k ≤ 4294967295 := hk
  have _hM := hM
  have c0 := hr.a
  have c1 := hr.x
  have hb1 : (0 : Int) ≤ (k : Int) := by omega
  have hb2 : (k : Int) < 16 := by omega
  have cm := hr.m k hq
  have fm := hr.free (2 + k)
  clear hr
  go_enter Tryz.func75, Tryz.ntmps75
  go_region
  all_goals
    go_wp2
    (try simp only [Exit.inBlock, Exit.then]); (first | refine bodyPost_end (results_none rfl _ _ _) rfl ?_ | refine bodyPost_ret (results_none rfl _ _ _) rfl ?_)
    exact ⟨rfl, HR.out.setM k _ hq, grown_trans (grown_set1 w ⟨g, 2 + k, none⟩ (.int .u32 (R.M.x : Int))) (grown_drewN _ 1 (some g))⟩

set_option maxHeartbeats 400000 in
theorem deed_copyToA (g k : Nat) (R : Rn) (w : World) (hr : RAt w g R) (hk : k ≤ 4294967295) (hM : R.M.ok) :
    Calls Tryz.prog 88 #[.pointer (some ⟨g, 0, none⟩), .int .u32 (k : Int)] w fun e w' => DeedPost w g R ⟨R.M.x, R.M.x, R.M.m⟩ R.f e w' := by
  have HR : Hid (RAt w g R) := hr
  have _hk : k ≤ 4294967295 := hk
  have _hM := hM
  have c0 := hr.a
  have c1 := hr.x
  have f0 := hr.free 0
  clear hr
  go_enter Tryz.func88, Tryz.ntmps88
  go_wp2
  (try simp only [Exit.inBlock, Exit.then]); (first | refine bodyPost_end (results_none rfl _ _ _) rfl ?_ | refine bodyPost_ret (results_none rfl _ _ _) rfl ?_)
  refine ⟨rfl, HR.out.setA' _ ?_, grown_set1 _ _ _⟩
  rfl

set_option maxHeartbeats 400000 in
theorem deed_copyToX (g k : Nat) (R : Rn) (w : World) (hr : RAt w g R) (hk : k ≤ 4294967295) (hM : R.M.ok) :
    Calls Tryz.prog 87 #[.pointer (some ⟨g, 0, none⟩), .int .u32 (k : Int)] w fun e w' => DeedPost w g R ⟨R.M.a, R.M.a, R.M.m⟩ R.f e w' := by
  have HR : Hid (RAt w g R) := hr
  have _hk : k ≤ 4294967295 := hk
  have _hM := hM
  have c0 := hr.a
  have c1 := hr.x
  have f1 := hr.free 1
  clear hr
  go_enter Tryz.func87, Tryz.ntmps87
  go_wp2
  (try simp only [Exit.inBlock, Exit.then]); (first | refine bodyPost_end (results_none rfl _ _ _) rfl ?_ | refine bodyPost_ret (results_none rfl _ _ _) rfl ?_)
  refine ⟨rfl, HR.out.setX' _ ?_, grown_set1 _ _ _⟩
  rfl

set_option maxHeartbeats 400000 in
theorem deed_add (g k : Nat) (R : Rn) (w : World) (hr : RAt w g R) (hk : k ≤ 4294967295) (hM : R.M.ok) :
    Calls Tryz.prog 76 #[.pointer (some ⟨g, 0, none⟩), .int .u32 (k : Int)] w fun e w' => DeedPost w g R ⟨(R.M.a + k) % 4294967296, R.M.x, R.M.m⟩ R.f e w' := by
  have HR : Hid (RAt w g R) := hr
  have _hk : k ≤ 4294967295 := hk
  have _hM := hM
  have c0 := hr.a
  have c1 := hr.x
  have f0 := hr.free 0
  clear hr
  go_enter Tryz.func76, Tryz.ntmps76
  go_wp2
  (try simp only [Exit.inBlock, Exit.then]); (first | refine bodyPost_end (results_none rfl _ _ _) rfl ?_ | refine bodyPost_ret (results_none rfl _ _ _) rfl ?_)
  refine ⟨rfl, HR.out.setA' _ ?_, grown_set1 _ _ _⟩
  omega

set_option maxHeartbeats 400000 in
theorem deed_subtract (g k : Nat) (R : Rn) (w : World) (hr : RAt w g R) (hk : k ≤ 4294967295) (hM : R.M.ok) :
    Calls Tryz.prog 77 #[.pointer (some ⟨g, 0, none⟩), .int .u32 (k : Int)] w fun e w' => DeedPost w g R ⟨(R.M.a + 4294967296 - k) % 4294967296, R.M.x, R.M.m⟩ R.f e w' := by
  have HR : Hid (RAt w g R) := hr
  have _hk : k ≤ 4294967295 := hk
  have _hM := hM
  have c0 := hr.a
  have c1 := hr.x
  have f0 := hr.free 0
  clear hr
  go_enter Tryz.func77, Tryz.ntmps77
  go_wp2
  (try simp only [Exit.inBlock, Exit.then]); (first | refine bodyPost_end (results_none rfl _ _ _) rfl ?_ | refine bodyPost_ret (results_none rfl _ _ _) rfl ?_)
  refine ⟨rfl, HR.out.setA' _ ?_, grown_set1 _ _ _⟩
  omega

set_option maxHeartbeats 400000 in
theorem deed_multiply (g k : Nat) (R : Rn) (w : World) (hr : RAt w g R) (hk : k ≤ 4294967295) (hM : R.M.ok) :
    Calls Tryz.prog 78 #[.pointer (some ⟨g, 0, none⟩), .int .u32 (k : Int)] w fun e w' => DeedPost w g R ⟨R.M.a * k % 4294967296, R.M.x, R.M.m⟩ R.f e w' := by
  have HR : Hid (RAt w g R) := hr
  have _hk : k ≤ 4294967295 := hk
  have _hM := hM
  have c0 := hr.a
  have c1 := hr.x
  have f0 := hr.free 0
  clear hr
  go_enter Tryz.func78, Tryz.ntmps78
  go_wp2
  (try simp only [Exit.inBlock, Exit.then]); (first | refine bodyPost_end (results_none rfl _ _ _) rfl ?_ | refine bodyPost_ret (results_none rfl _ _ _) rfl ?_)
  refine ⟨rfl, HR.out.setA' _ ?_, grown_set1 _ _ _⟩
  simp

set_option maxHeartbeats 400000 in
theorem deed_negate (g k : Nat) (R : Rn) (w : World) (hr : RAt w g R) (hk : k ≤ 4294967295) (hM : R.M.ok) :
    Calls Tryz.prog 86 #[.pointer (some ⟨g, 0, none⟩), .int .u32 (k : Int)] w fun e w' => DeedPost w g R ⟨(4294967296 - R.M.a) % 4294967296, R.M.x, R.M.m⟩ R.f e w' := by
  have HR : Hid (RAt w g R) := hr
  have _hk : k ≤ 4294967295 := hk
  have _hM := hM
  have c0 := hr.a
  have c1 := hr.x
  have f0 := hr.free 0
  have ba := hM.1
  clear hr
  go_enter Tryz.func86, Tryz.ntmps86
  go_wp2
  (try simp only [Exit.inBlock, Exit.then]); (first | refine bodyPost_end (results_none rfl _ _ _) rfl ?_ | refine bodyPost_ret (results_none rfl _ _ _) rfl ?_)
  refine ⟨rfl, HR.out.setA' _ ?_, grown_set1 _ _ _⟩
  omega

set_option maxHeartbeats 400000 in
theorem deed_or (g k : Nat) (R : Rn) (w : World) (hr : RAt w g R) (hk : k ≤ 4294967295) (hM : R.M.ok) :
    Calls Tryz.prog 81 #[.pointer (some ⟨g, 0, none⟩), .int .u32 (k : Int)] w fun e w' => DeedPost w g R ⟨R.M.a ||| k, R.M.x, R.M.m⟩ R.f e w' := by
  have HR : Hid (RAt w g R) := hr
  have _hk : k ≤ 4294967295 := hk
  have _hM := hM
  have c0 := hr.a
  have c1 := hr.x
  have f0 := hr.free 0
  have e1 := u32_or_nat R.M.a k (by have := hM.1; omega) (by omega)
  clear hr
  go_enter Tryz.func81, Tryz.ntmps81
  go_wp2
  (try simp only [Exit.inBlock, Exit.then]); (first | refine bodyPost_end (results_none rfl _ _ _) rfl ?_ | refine bodyPost_ret (results_none rfl _ _ _) rfl ?_)
  refine ⟨rfl, HR.out.setA' _ ?_, grown_set1 _ _ _⟩
  first | rfl | exact e1 | simp

set_option maxHeartbeats 400000 in
theorem deed_and (g k : Nat) (R : Rn) (w : World) (hr : RAt w g R) (hk : k ≤ 4294967295) (hM : R.M.ok) :
    Calls Tryz.prog 82 #[.pointer (some ⟨g, 0, none⟩), .int .u32 (k : Int)] w fun e w' => DeedPost w g R ⟨R.M.a &&& k, R.M.x, R.M.m⟩ R.f e w' := by
  have HR : Hid (RAt w g R) := hr
  have _hk : k ≤ 4294967295 := hk
  have _hM := hM
  have c0 := hr.a
  have c1 := hr.x
  have f0 := hr.free 0
  have e1 := u32_and_nat R.M.a k (by have := hM.1; omega) (by omega)
  clear hr
  go_enter Tryz.func82, Tryz.ntmps82
  go_wp2
  (try simp only [Exit.inBlock, Exit.then]); (first | refine bodyPost_end (results_none rfl _ _ _) rfl ?_ | refine bodyPost_ret (results_none rfl _ _ _) rfl ?_)
  refine ⟨rfl, HR.out.setA' _ ?_, grown_set1 _ _ _⟩
  first | rfl | exact e1 | simp

set_option maxHeartbeats 400000 in
theorem deed_xor (g k : Nat) (R : Rn) (w : World) (hr : RAt w g R) (hk : k ≤ 4294967295) (hM : R.M.ok) :
    Calls Tryz.prog 83 #[.pointer (some ⟨g, 0, none⟩), .int .u32 (k : Int)] w fun e w' => DeedPost w g R ⟨R.M.a ^^^ k, R.M.x, R.M.m⟩ R.f e w' := by
  have HR : Hid (RAt w g R) := hr
  have _hk : k ≤ 4294967295 := hk
  have _hM := hM
  have c0 := hr.a
  have c1 := hr.x
  have f0 := hr.free 0
  have e1 := u32_xor_nat R.M.a k (by have := hM.1; omega) (by omega)
  clear hr
  go_enter Tryz.func83, Tryz.ntmps83
  go_wp2
  (try simp only [Exit.inBlock, Exit.then]); (first | refine bodyPost_end (results_none rfl _ _ _) rfl ?_ | refine bodyPost_ret (results_none rfl _ _ _) rfl ?_)
  refine ⟨rfl, HR.out.setA' _ ?_, grown_set1 _ _ _⟩
  first | rfl | exact e1 | simp

set_option maxHeartbeats 400000 in
theorem deed_shiftLeft (g k : Nat) (R : Rn) (w : World) (hr : RAt w g R) (hk : k ≤ 4294967295) (hM : R.M.ok) :
    Calls Tryz.prog 84 #[.pointer (some ⟨g, 0, none⟩), .int .u32 (k : Int)] w fun e w' => DeedPost w g R ⟨shiftV R.M.a k true, R.M.x, R.M.m⟩ R.f e w' := by
  have HR : Hid (RAt w g R) := hr
  have _hk : k ≤ 4294967295 := hk
  have _hM := hM
  have c0 := hr.a
  have c1 := hr.x
  have f0 := hr.free 0
  clear hr
  go_enter Tryz.func84, Tryz.ntmps84
  go_wp2
  (try simp only [Exit.inBlock, Exit.then]); (first | refine bodyPost_end (results_none rfl _ _ _) rfl ?_ | refine bodyPost_ret (results_none rfl _ _ _) rfl ?_)
  refine ⟨rfl, HR.out.setA' _ ?_, grown_set1 _ _ _⟩
  rw [← shiftV_left]
  simp

set_option maxHeartbeats 400000 in
theorem deed_shiftRight (g k : Nat) (R : Rn) (w : World) (hr : RAt w g R) (hk : k ≤ 4294967295) (hM : R.M.ok) :
    Calls Tryz.prog 85 #[.pointer (some ⟨g, 0, none⟩), .int .u32 (k : Int)] w fun e w' => DeedPost w g R ⟨shiftV R.M.a k false, R.M.x, R.M.m⟩ R.f e w' := by
  have HR : Hid (RAt w g R) := hr
  have _hk : k ≤ 4294967295 := hk
  have _hM := hM
  have c0 := hr.a
  have c1 := hr.x
  have f0 := hr.free 0
  clear hr
  go_enter Tryz.func85, Tryz.ntmps85
  go_wp2
  (try simp only [Exit.inBlock, Exit.then]); (first | refine bodyPost_end (results_none rfl _ _ _) rfl ?_ | refine bodyPost_ret (results_none rfl _ _ _) rfl ?_)
  refine ⟨rfl, HR.out.setA' _ ?_, grown_set1 _ _ _⟩
  rw [← shiftV_right R.M.a k hM.1]
  simp

set_option maxHeartbeats 400000 in
theorem deed_lengthToA (g k : Nat) (R : Rn) (w : World) (hr : RAt w g R) (hk : k ≤ 4294967295) (hM : R.M.ok) (b : Option Addr) (n cb : Nat) (hp : R.pk = .slice b n cb) (hn : n ≤ 65536) :
    Calls Tryz.prog 63 #[.pointer (some ⟨g, 0, none⟩), .int .u32 (k : Int)] w fun e w' => DeedPost w g R ⟨n, R.M.x, R.M.m⟩ R.f e w' := by
  have HR : Hid (RAt w g R) := hr
  have _hk : k ≤ 4294967295 := hk
  have _hM := hM
  have c0 := hr.a
  have c1 := hr.x
  have f0 := hr.free 0
  have cp : w.cell? ⟨g, 18, none⟩ = some (.slice b n cb) := by rw [← hp]; exact hr.tl 0
  clear hr
  go_enter Tryz.func63, Tryz.ntmps63
  go_wp2
  (try simp only [Exit.inBlock, Exit.then]); (first | refine bodyPost_end (results_none rfl _ _ _) rfl ?_ | refine bodyPost_ret (results_none rfl _ _ _) rfl ?_)
  refine ⟨rfl, HR.out.setA' _ ?_, grown_set1 _ _ _⟩
  omega

set_option maxHeartbeats 400000 in
theorem deed_lengthToX (g k : Nat) (R : Rn) (w : World) (hr : RAt w g R) (hk : k ≤ 4294967295) (hM : R.M.ok) (b : Option Addr) (n cb : Nat) (hp : R.pk = .slice b n cb) (hn : n ≤ 65536) :
    Calls Tryz.prog 72 #[.pointer (some ⟨g, 0, none⟩), .int .u32 (k : Int)] w fun e w' => DeedPost w g R ⟨R.M.a, n, R.M.m⟩ R.f e w' := by
  have HR : Hid (RAt w g R) := hr
  have _hk : k ≤ 4294967295 := hk
  have _hM := hM
  have c0 := hr.a
  have c1 := hr.x
  have f1 := hr.free 1
  have cp : w.cell? ⟨g, 18, none⟩ = some (.slice b n cb) := by rw [← hp]; exact hr.tl 0
  clear hr
  go_enter Tryz.func72, Tryz.ntmps72
  go_wp2
  (try simp only [Exit.inBlock, Exit.then]); (first | refine bodyPost_end (results_none rfl _ _ _) rfl ?_ | refine bodyPost_ret (results_none rfl _ _ _) rfl ?_)
  refine ⟨rfl, HR.out.setX' _ ?_, grown_set1 _ _ _⟩
  omega

set_option maxHeartbeats 400000 in
theorem deed_divide (g k : Nat) (R : Rn) (w : World) (hr : RAt w g R) (hM : R.M.ok) (hk0 : k ≠ 0) :
    Calls Tryz.prog 79 #[.pointer (some ⟨g, 0, none⟩), .int .u32 (k : Int)] w fun e w' => DeedPost w g R ⟨R.M.a / k, R.M.x, R.M.m⟩ R.f e w' := by
  have HR : Hid (RAt w g R) := hr
  have c0 := hr.a
  have f0 := hr.free 0
  have hz : ((k : Int) == 0) = false := by rw [beq_eq_false_iff_ne]; omega
  have hz3 : ¬ ((k : Int) = 0) := by omega
  have ba := hM.1
  have q1 : ((R.M.a : Int) / (k : Int)) % 4294967296 = ((R.M.a / k : Nat) : Int) := by
    have q0 : R.M.a / k ≤ R.M.a := Nat.div_le_self _ _
    rw [← Int.natCast_ediv]
    generalize R.M.a / k = q at *
    omega
  clear hr
  go_enter Tryz.func79, Tryz.ntmps79
  go_wp2
  (try simp only [Exit.inBlock, Exit.then]); (first | refine bodyPost_end (results_none rfl _ _ _) rfl ?_ | refine bodyPost_ret (results_none rfl _ _ _) rfl ?_)
  refine ⟨rfl, HR.out.setA' _ ?_, grown_set1 _ _ _⟩
  first | exact q1 | (simp at q1 ⊢; done)

set_option maxHeartbeats 400000 in
theorem deed_divide0 (g : Nat) (R : Rn) (w : World) (hr : RAt w g R) :
    Calls Tryz.prog 79 #[.pointer (some ⟨g, 0, none⟩), .int .u32 0] w fun e w' => DeedPost w g R R.M 2 e w' := by
  have R1 := hr.setF 2
  have cf : w.cell? ⟨g, 19, none⟩ = some (.int .i64 R.f) := hr.tl 1
  have f0 := hr.free 19
  clear hr
  go_enter Tryz.func79, Tryz.ntmps79
  go_wp2
  (try simp only [Exit.inBlock, Exit.then]); (first | refine bodyPost_end (results_none rfl _ _ _) rfl ?_ | refine bodyPost_ret (results_none rfl _ _ _) rfl ?_)
  exact ⟨rfl, R1, grown_set1 _ _ _⟩

set_option maxHeartbeats 400000 in
theorem deed_remain (g k : Nat) (R : Rn) (w : World) (hr : RAt w g R) (hM : R.M.ok) (hk0 : k ≠ 0) :
    Calls Tryz.prog 80 #[.pointer (some ⟨g, 0, none⟩), .int .u32 (k : Int)] w fun e w' => DeedPost w g R ⟨R.M.a % k, R.M.x, R.M.m⟩ R.f e w' := by
  have HR : Hid (RAt w g R) := hr
  have c0 := hr.a
  have f0 := hr.free 0
  have hz : ((k : Int) == 0) = false := by rw [beq_eq_false_iff_ne]; omega
  have hz3 : ¬ ((k : Int) = 0) := by omega
  have ba := hM.1
  have q1 : ((R.M.a : Int) % (k : Int)) % 4294967296 = ((R.M.a % k : Nat) : Int) := by
    have q0 : R.M.a % k ≤ R.M.a := Nat.mod_le _ _
    rw [← Int.natCast_emod]
    generalize R.M.a % k = q at *
    omega
  clear hr
  go_enter Tryz.func80, Tryz.ntmps80
  go_wp2
  (try simp only [Exit.inBlock, Exit.then]); (first | refine bodyPost_end (results_none rfl _ _ _) rfl ?_ | refine bodyPost_ret (results_none rfl _ _ _) rfl ?_)
  refine ⟨rfl, HR.out.setA' _ ?_, grown_set1 _ _ _⟩
  first | exact q1 | (simp at q1 ⊢; done)

set_option maxHeartbeats 400000 in
theorem deed_remain0 (g : Nat) (R : Rn) (w : World) (hr : RAt w g R) :
    Calls Tryz.prog 80 #[.pointer (some ⟨g, 0, none⟩), .int .u32 0] w fun e w' => DeedPost w g R R.M 2 e w' := by
  have R1 := hr.setF 2
  have cf : w.cell? ⟨g, 19, none⟩ = some (.int .i64 R.f) := hr.tl 1
  have f0 := hr.free 19
  clear hr
  go_enter Tryz.func80, Tryz.ntmps80
  go_wp2
  (try simp only [Exit.inBlock, Exit.then]); (first | refine bodyPost_end (results_none rfl _ _ _) rfl ?_ | refine bodyPost_ret (results_none rfl _ _ _) rfl ?_)
  exact ⟨rfl, R1, grown_set1 _ _ _⟩

end Go.Proofs.YtencoknpocipbaaGreat
