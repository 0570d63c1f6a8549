/-
  The landed machine: what the instructions do, each by itself.
-/
import Derived.Test.YtencoknpocipbaaLotP6
import Derived.Test.YtencoknpocipbaaGetW
namespace Go.Proofs.Ytencoknpocipbaa
open Go.RowKit
set_option maxRecDepth 100000

theorem RAt.setA' {w : World} {g : Nat} {R : Rn} {z : Int} (h : RAt w g R) (v : Nat) (hz : z = (v : Int)) : RAt (w.setCell ⟨g, 0, none⟩ (.int .u32 z)) g { R with M := ⟨v, R.M.x, R.M.m⟩ } := by
  subst hz
  exact h.setA v
theorem RAt.setX' {w : World} {g : Nat} {R : Rn} {z : Int} (h : RAt w g R) (v : Nat) (hz : z = (v : Int)) : RAt (w.setCell ⟨g, 1, none⟩ (.int .u32 z)) g { R with M := ⟨R.M.a, v, R.M.m⟩ } := by
  subst hz
  exact h.setX v
theorem shl_far (a b : Nat) (h : 31 < b) : a * 2 ^ b % 4294967296 = 0 := by
  obtain ⟨c, rfl⟩ : ∃ c, b = 32 + c := ⟨b - 32, by omega⟩
  rw [Nat.pow_add, ← Nat.mul_assoc, Nat.mul_right_comm, show (2 : Nat) ^ 32 = 4294967296 by rfl]
  exact Nat.mul_mod_left _ _
theorem shr_far (a b : Nat) (ha : a ≤ 4294967295) (h : 31 < b) : a / 2 ^ b = 0 := by
  refine Nat.div_eq_of_lt ?_
  have : 2 ^ 32 ≤ 2 ^ b := Nat.pow_le_pow_right (by decide) (by omega)
  omega
theorem shiftV_left (a b : Nat) : a * 2 ^ (min b 32) % 4294967296 = shiftV a b true := by
  unfold shiftV
  by_cases h : 31 < b
  · rw [if_pos h, shl_far a _ (by omega)]
  · rw [if_neg h, if_pos rfl, Nat.min_eq_left (by omega)]
theorem shiftV_right (a b : Nat) (ha : a ≤ 4294967295) : a / 2 ^ (min b 32) = shiftV a b false := by
  unfold shiftV
  by_cases h : 31 < b
  · rw [if_pos h, shr_far a _ ha (by omega)]
  · rw [if_neg h, if_neg (by simp), Nat.min_eq_left (by omega)]

set_option maxHeartbeats 400000 in
theorem deed_setA (g k : Nat) (R : Rn) (w : World) (hr : RAt w g R) (hk : k ≤ 4294967295) (hM : R.M.ok) :
    Calls Try.prog 63 #[.pointer (some ⟨g, 0, none⟩), .int .u32 (k : Int)] w fun e w' => DeedPost w g R ⟨k, R.M.x, R.M.m⟩ R.f e w' := by
  have HR : Hid (RAt w g R) := hr
  have _hk : k ≤ 4294967295 := hk
  have _hM := hM
  have c0 := hr.a
  have c1 := hr.x
  have f0 := hr.free 0
  clear hr
  go_enter Try.func63, Try.ntmps63
  go_wp2
  (try simp only [Exit.inBlock, Exit.then]); (first | refine bodyPost_end (results_none rfl _ _ _) rfl ?_ | refine bodyPost_ret (results_none rfl _ _ _) rfl ?_)
  refine ⟨rfl, HR.out.setA' _ ?_, grown_set1 _ _ _⟩
  rfl

set_option maxHeartbeats 400000 in
theorem deed_setX (g k : Nat) (R : Rn) (w : World) (hr : RAt w g R) (hk : k ≤ 4294967295) (hM : R.M.ok) :
    Calls Try.prog 72 #[.pointer (some ⟨g, 0, none⟩), .int .u32 (k : Int)] w fun e w' => DeedPost w g R ⟨R.M.a, k, R.M.m⟩ R.f e w' := by
  have HR : Hid (RAt w g R) := hr
  have _hk : k ≤ 4294967295 := hk
  have _hM := hM
  have c0 := hr.a
  have c1 := hr.x
  have f1 := hr.free 1
  clear hr
  go_enter Try.func72, Try.ntmps72
  go_wp2
  (try simp only [Exit.inBlock, Exit.then]); (first | refine bodyPost_end (results_none rfl _ _ _) rfl ?_ | refine bodyPost_ret (results_none rfl _ _ _) rfl ?_)
  refine ⟨rfl, HR.out.setX' _ ?_, grown_set1 _ _ _⟩
  rfl

set_option maxHeartbeats 400000 in
theorem deed_recallA (g k : Nat) (R : Rn) (w : World) (hr : RAt w g R) (hk : k ≤ 4294967295) (hM : R.M.ok) (hq : k < 16) :
    Calls Try.prog 64 #[.pointer (some ⟨g, 0, none⟩), .int .u32 (k : Int)] w fun e w' => DeedPost w g R ⟨R.M.m.getD k 0, R.M.x, R.M.m⟩ R.f e w' := by
  have HR : Hid (RAt w g R) := hr
  have _hk : k ≤ 4294967295 := hk
  have _hM := hM
  have c0 := hr.a
  have c1 := hr.x
  have hb1 : (0 : Int) ≤ (k : Int) := by omega
  have hb2 : (k : Int) < 16 := by omega
  have cm := hr.m k hq
  have f0 := hr.free 0
  generalize R.M.m.getD k 0 = v at *
  clear hr
  go_enter Try.func64, Try.ntmps64
  go_wp2
  (try simp only [Exit.inBlock, Exit.then]); (first | refine bodyPost_end (results_none rfl _ _ _) rfl ?_ | refine bodyPost_ret (results_none rfl _ _ _) rfl ?_)
  refine ⟨rfl, HR.out.setA' _ ?_, grown_set1 _ _ _⟩
  rfl

set_option maxHeartbeats 400000 in
theorem deed_recallX (g k : Nat) (R : Rn) (w : World) (hr : RAt w g R) (hk : k ≤ 4294967295) (hM : R.M.ok) (hq : k < 16) :
    Calls Try.prog 73 #[.pointer (some ⟨g, 0, none⟩), .int .u32 (k : Int)] w fun e w' => DeedPost w g R ⟨R.M.a, R.M.m.getD k 0, R.M.m⟩ R.f e w' := by
  have HR : Hid (RAt w g R) := hr
  have _hk : k ≤ 4294967295 := hk
  have _hM := hM
  have c0 := hr.a
  have c1 := hr.x
  have hb1 : (0 : Int) ≤ (k : Int) := by omega
  have hb2 : (k : Int) < 16 := by omega
  have cm := hr.m k hq
  have f1 := hr.free 1
  generalize R.M.m.getD k 0 = v at *
  clear hr
  go_enter Try.func73, Try.ntmps73
  go_wp2
  (try simp only [Exit.inBlock, Exit.then]); (first | refine bodyPost_end (results_none rfl _ _ _) rfl ?_ | refine bodyPost_ret (results_none rfl _ _ _) rfl ?_)
  refine ⟨rfl, HR.out.setX' _ ?_, grown_set1 _ _ _⟩
  rfl

set_option maxHeartbeats 400000 in
theorem deed_keepA (g k : Nat) (R : Rn) (w : World) (hr : RAt w g R) (hk : k ≤ 4294967295) (hM : R.M.ok) (hq : k < 16) :
    Calls Try.prog 76 #[.pointer (some ⟨g, 0, none⟩), .int .u32 (k : Int)] w fun e w' => DeedPost w g R ⟨R.M.a, R.M.x, R.M.m.set k R.M.a⟩ R.f e w' := by
  have HR : Hid (RAt w g R) := hr
  have _hk : k ≤ 4294967295 := hk
  have _hM := hM
  have c0 := hr.a
  have c1 := hr.x
  have hb1 : (0 : Int) ≤ (k : Int) := by omega
  have hb2 : (k : Int) < 16 := by omega
  have cm := hr.m k hq
  have fm := hr.free (2 + k)
  clear hr
  go_enter Try.func76, Try.ntmps76
  go_region
  all_goals
    go_wp2
    (try simp only [Exit.inBlock, Exit.then]); (first | refine bodyPost_end (results_none rfl _ _ _) rfl ?_ | refine bodyPost_ret (results_none rfl _ _ _) rfl ?_)
    exact ⟨rfl, HR.out.setM k _ hq, grown_trans (grown_set1 w ⟨g, 2 + k, none⟩ (.int .u32 (R.M.a : Int))) (grown_drewN _ 1 (some g))⟩

set_option maxHeartbeats 400000 in
theorem deed_keepX (g k : Nat) (R : Rn) (w : World) (hr : RAt w g R) (hk : k ≤ 4294967295) (hM : R.M.ok) (hq : k < 16) :
    Calls Try.prog 77 #[.pointer (some ⟨g, 0, none⟩), .int .u32 (k : Int)] w fun e w' => DeedPost w g R ⟨R.M.a, R.M.x, R.M.m.set k R.M.x⟩ R.f e w' := by
  have HR : Hid (RAt w g R) := hr
  have _hk : k ≤ 4294967295 := hk
  have _hM := hM
  have c0 := hr.a
  have c1 := hr.x
  have hb1 : (0 : Int) ≤ (k : Int) := by omega
  have hb2 : (k : Int) < 16 := by omega
  have cm := hr.m k hq
  have fm := hr.free (2 + k)
  clear hr
  go_enter Try.func77, Try.ntmps77
  go_region
  all_goals
    go_wp2
    (try simp only [Exit.inBlock, Exit.then]); (first | refine bodyPost_end (results_none rfl _ _ _) rfl ?_ | refine bodyPost_ret (results_none rfl _ _ _) rfl ?_)
    exact ⟨rfl, HR.out.setM k _ hq, grown_trans (grown_set1 w ⟨g, 2 + k, none⟩ (.int .u32 (R.M.x : Int))) (grown_drewN _ 1 (some g))⟩

set_option maxHeartbeats 400000 in
theorem deed_copyToA (g k : Nat) (R : Rn) (w : World) (hr : RAt w g R) (hk : k ≤ 4294967295) (hM : R.M.ok) :
    Calls Try.prog 90 #[.pointer (some ⟨g, 0, none⟩), .int .u32 (k : Int)] w fun e w' => DeedPost w g R ⟨R.M.x, R.M.x, R.M.m⟩ R.f e w' := by
  have HR : Hid (RAt w g R) := hr
  have _hk : k ≤ 4294967295 := hk
  have _hM := hM
  have c0 := hr.a
  have c1 := hr.x
  have f0 := hr.free 0
  clear hr
  go_enter Try.func90, Try.ntmps90
  go_wp2
  (try simp only [Exit.inBlock, Exit.then]); (first | refine bodyPost_end (results_none rfl _ _ _) rfl ?_ | refine bodyPost_ret (results_none rfl _ _ _) rfl ?_)
  refine ⟨rfl, HR.out.setA' _ ?_, grown_set1 _ _ _⟩
  rfl

set_option maxHeartbeats 400000 in
theorem deed_copyToX (g k : Nat) (R : Rn) (w : World) (hr : RAt w g R) (hk : k ≤ 4294967295) (hM : R.M.ok) :
    Calls Try.prog 89 #[.pointer (some ⟨g, 0, none⟩), .int .u32 (k : Int)] w fun e w' => DeedPost w g R ⟨R.M.a, R.M.a, R.M.m⟩ R.f e w' := by
  have HR : Hid (RAt w g R) := hr
  have _hk : k ≤ 4294967295 := hk
  have _hM := hM
  have c0 := hr.a
  have c1 := hr.x
  have f1 := hr.free 1
  clear hr
  go_enter Try.func89, Try.ntmps89
  go_wp2
  (try simp only [Exit.inBlock, Exit.then]); (first | refine bodyPost_end (results_none rfl _ _ _) rfl ?_ | refine bodyPost_ret (results_none rfl _ _ _) rfl ?_)
  refine ⟨rfl, HR.out.setX' _ ?_, grown_set1 _ _ _⟩
  rfl

set_option maxHeartbeats 400000 in
theorem deed_add (g k : Nat) (R : Rn) (w : World) (hr : RAt w g R) (hk : k ≤ 4294967295) (hM : R.M.ok) :
    Calls Try.prog 78 #[.pointer (some ⟨g, 0, none⟩), .int .u32 (k : Int)] w fun e w' => DeedPost w g R ⟨(R.M.a + k) % 4294967296, R.M.x, R.M.m⟩ R.f e w' := by
  have HR : Hid (RAt w g R) := hr
  have _hk : k ≤ 4294967295 := hk
  have _hM := hM
  have c0 := hr.a
  have c1 := hr.x
  have f0 := hr.free 0
  clear hr
  go_enter Try.func78, Try.ntmps78
  go_wp2
  (try simp only [Exit.inBlock, Exit.then]); (first | refine bodyPost_end (results_none rfl _ _ _) rfl ?_ | refine bodyPost_ret (results_none rfl _ _ _) rfl ?_)
  refine ⟨rfl, HR.out.setA' _ ?_, grown_set1 _ _ _⟩
  omega

set_option maxHeartbeats 400000 in
theorem deed_subtract (g k : Nat) (R : Rn) (w : World) (hr : RAt w g R) (hk : k ≤ 4294967295) (hM : R.M.ok) :
    Calls Try.prog 79 #[.pointer (some ⟨g, 0, none⟩), .int .u32 (k : Int)] w fun e w' => DeedPost w g R ⟨(R.M.a + 4294967296 - k) % 4294967296, R.M.x, R.M.m⟩ R.f e w' := by
  have HR : Hid (RAt w g R) := hr
  have _hk : k ≤ 4294967295 := hk
  have _hM := hM
  have c0 := hr.a
  have c1 := hr.x
  have f0 := hr.free 0
  clear hr
  go_enter Try.func79, Try.ntmps79
  go_wp2
  (try simp only [Exit.inBlock, Exit.then]); (first | refine bodyPost_end (results_none rfl _ _ _) rfl ?_ | refine bodyPost_ret (results_none rfl _ _ _) rfl ?_)
  refine ⟨rfl, HR.out.setA' _ ?_, grown_set1 _ _ _⟩
  omega

set_option maxHeartbeats 400000 in
theorem deed_multiply (g k : Nat) (R : Rn) (w : World) (hr : RAt w g R) (hk : k ≤ 4294967295) (hM : R.M.ok) :
    Calls Try.prog 80 #[.pointer (some ⟨g, 0, none⟩), .int .u32 (k : Int)] w fun e w' => DeedPost w g R ⟨R.M.a * k % 4294967296, R.M.x, R.M.m⟩ R.f e w' := by
  have HR : Hid (RAt w g R) := hr
  have _hk : k ≤ 4294967295 := hk
  have _hM := hM
  have c0 := hr.a
  have c1 := hr.x
  have f0 := hr.free 0
  clear hr
  go_enter Try.func80, Try.ntmps80
  go_wp2
  (try simp only [Exit.inBlock, Exit.then]); (first | refine bodyPost_end (results_none rfl _ _ _) rfl ?_ | refine bodyPost_ret (results_none rfl _ _ _) rfl ?_)
  refine ⟨rfl, HR.out.setA' _ ?_, grown_set1 _ _ _⟩
  simp

set_option maxHeartbeats 400000 in
theorem deed_negate (g k : Nat) (R : Rn) (w : World) (hr : RAt w g R) (hk : k ≤ 4294967295) (hM : R.M.ok) :
    Calls Try.prog 88 #[.pointer (some ⟨g, 0, none⟩), .int .u32 (k : Int)] w fun e w' => DeedPost w g R ⟨(4294967296 - R.M.a) % 4294967296, R.M.x, R.M.m⟩ R.f e w' := by
  have HR : Hid (RAt w g R) := hr
  have _hk : k ≤ 4294967295 := hk
  have _hM := hM
  have c0 := hr.a
  have c1 := hr.x
  have f0 := hr.free 0
  have ba := hM.1
  clear hr
  go_enter Try.func88, Try.ntmps88
  go_wp2
  (try simp only [Exit.inBlock, Exit.then]); (first | refine bodyPost_end (results_none rfl _ _ _) rfl ?_ | refine bodyPost_ret (results_none rfl _ _ _) rfl ?_)
  refine ⟨rfl, HR.out.setA' _ ?_, grown_set1 _ _ _⟩
  omega

set_option maxHeartbeats 400000 in
theorem deed_or (g k : Nat) (R : Rn) (w : World) (hr : RAt w g R) (hk : k ≤ 4294967295) (hM : R.M.ok) :
    Calls Try.prog 83 #[.pointer (some ⟨g, 0, none⟩), .int .u32 (k : Int)] w fun e w' => DeedPost w g R ⟨R.M.a ||| k, R.M.x, R.M.m⟩ R.f e w' := by
  have HR : Hid (RAt w g R) := hr
  have _hk : k ≤ 4294967295 := hk
  have _hM := hM
  have c0 := hr.a
  have c1 := hr.x
  have f0 := hr.free 0
  have e1 := u32_or_nat R.M.a k (by have := hM.1; omega) (by omega)
  clear hr
  go_enter Try.func83, Try.ntmps83
  go_wp2
  (try simp only [Exit.inBlock, Exit.then]); (first | refine bodyPost_end (results_none rfl _ _ _) rfl ?_ | refine bodyPost_ret (results_none rfl _ _ _) rfl ?_)
  refine ⟨rfl, HR.out.setA' _ ?_, grown_set1 _ _ _⟩
  first | rfl | exact e1 | simp

set_option maxHeartbeats 400000 in
theorem deed_and (g k : Nat) (R : Rn) (w : World) (hr : RAt w g R) (hk : k ≤ 4294967295) (hM : R.M.ok) :
    Calls Try.prog 84 #[.pointer (some ⟨g, 0, none⟩), .int .u32 (k : Int)] w fun e w' => DeedPost w g R ⟨R.M.a &&& k, R.M.x, R.M.m⟩ R.f e w' := by
  have HR : Hid (RAt w g R) := hr
  have _hk : k ≤ 4294967295 := hk
  have _hM := hM
  have c0 := hr.a
  have c1 := hr.x
  have f0 := hr.free 0
  have e1 := u32_and_nat R.M.a k (by have := hM.1; omega) (by omega)
  clear hr
  go_enter Try.func84, Try.ntmps84
  go_wp2
  (try simp only [Exit.inBlock, Exit.then]); (first | refine bodyPost_end (results_none rfl _ _ _) rfl ?_ | refine bodyPost_ret (results_none rfl _ _ _) rfl ?_)
  refine ⟨rfl, HR.out.setA' _ ?_, grown_set1 _ _ _⟩
  first | rfl | exact e1 | simp

set_option maxHeartbeats 400000 in
theorem deed_xor (g k : Nat) (R : Rn) (w : World) (hr : RAt w g R) (hk : k ≤ 4294967295) (hM : R.M.ok) :
    Calls Try.prog 85 #[.pointer (some ⟨g, 0, none⟩), .int .u32 (k : Int)] w fun e w' => DeedPost w g R ⟨R.M.a ^^^ k, R.M.x, R.M.m⟩ R.f e w' := by
  have HR : Hid (RAt w g R) := hr
  have _hk : k ≤ 4294967295 := hk
  have _hM := hM
  have c0 := hr.a
  have c1 := hr.x
  have f0 := hr.free 0
  have e1 := u32_xor_nat R.M.a k (by have := hM.1; omega) (by omega)
  clear hr
  go_enter Try.func85, Try.ntmps85
  go_wp2
  (try simp only [Exit.inBlock, Exit.then]); (first | refine bodyPost_end (results_none rfl _ _ _) rfl ?_ | refine bodyPost_ret (results_none rfl _ _ _) rfl ?_)
  refine ⟨rfl, HR.out.setA' _ ?_, grown_set1 _ _ _⟩
  first | rfl | exact e1 | simp

set_option maxHeartbeats 400000 in
theorem deed_shiftLeft (g k : Nat) (R : Rn) (w : World) (hr : RAt w g R) (hk : k ≤ 4294967295) (hM : R.M.ok) :
    Calls Try.prog 86 #[.pointer (some ⟨g, 0, none⟩), .int .u32 (k : Int)] w fun e w' => DeedPost w g R ⟨shiftV R.M.a k true, R.M.x, R.M.m⟩ R.f e w' := by
  have HR : Hid (RAt w g R) := hr
  have _hk : k ≤ 4294967295 := hk
  have _hM := hM
  have c0 := hr.a
  have c1 := hr.x
  have f0 := hr.free 0
  clear hr
  go_enter Try.func86, Try.ntmps86
  go_wp2
  (try simp only [Exit.inBlock, Exit.then]); (first | refine bodyPost_end (results_none rfl _ _ _) rfl ?_ | refine bodyPost_ret (results_none rfl _ _ _) rfl ?_)
  refine ⟨rfl, HR.out.setA' _ ?_, grown_set1 _ _ _⟩
  rw [← shiftV_left]
  simp

set_option maxHeartbeats 400000 in
theorem deed_shiftRight (g k : Nat) (R : Rn) (w : World) (hr : RAt w g R) (hk : k ≤ 4294967295) (hM : R.M.ok) :
    Calls Try.prog 87 #[.pointer (some ⟨g, 0, none⟩), .int .u32 (k : Int)] w fun e w' => DeedPost w g R ⟨shiftV R.M.a k false, R.M.x, R.M.m⟩ R.f e w' := by
  have HR : Hid (RAt w g R) := hr
  have _hk : k ≤ 4294967295 := hk
  have _hM := hM
  have c0 := hr.a
  have c1 := hr.x
  have f0 := hr.free 0
  clear hr
  go_enter Try.func87, Try.ntmps87
  go_wp2
  (try simp only [Exit.inBlock, Exit.then]); (first | refine bodyPost_end (results_none rfl _ _ _) rfl ?_ | refine bodyPost_ret (results_none rfl _ _ _) rfl ?_)
  refine ⟨rfl, HR.out.setA' _ ?_, grown_set1 _ _ _⟩
  rw [← shiftV_right R.M.a k hM.1]
  simp

set_option maxHeartbeats 400000 in
theorem deed_lengthToA (g k : Nat) (R : Rn) (w : World) (hr : RAt w g R) (hk : k ≤ 4294967295) (hM : R.M.ok) (b : Option Addr) (n cb : Nat) (hp : R.pk = .slice b n cb) (hn : n ≤ 65536) :
    Calls Try.prog 65 #[.pointer (some ⟨g, 0, none⟩), .int .u32 (k : Int)] w fun e w' => DeedPost w g R ⟨n, R.M.x, R.M.m⟩ R.f e w' := by
  have HR : Hid (RAt w g R) := hr
  have _hk : k ≤ 4294967295 := hk
  have _hM := hM
  have c0 := hr.a
  have c1 := hr.x
  have f0 := hr.free 0
  have cp : w.cell? ⟨g, 18, none⟩ = some (.slice b n cb) := by rw [← hp]; exact hr.tl 0
  clear hr
  go_enter Try.func65, Try.ntmps65
  go_wp2
  (try simp only [Exit.inBlock, Exit.then]); (first | refine bodyPost_end (results_none rfl _ _ _) rfl ?_ | refine bodyPost_ret (results_none rfl _ _ _) rfl ?_)
  refine ⟨rfl, HR.out.setA' _ ?_, grown_set1 _ _ _⟩
  omega

set_option maxHeartbeats 400000 in
theorem deed_lengthToX (g k : Nat) (R : Rn) (w : World) (hr : RAt w g R) (hk : k ≤ 4294967295) (hM : R.M.ok) (b : Option Addr) (n cb : Nat) (hp : R.pk = .slice b n cb) (hn : n ≤ 65536) :
    Calls Try.prog 74 #[.pointer (some ⟨g, 0, none⟩), .int .u32 (k : Int)] w fun e w' => DeedPost w g R ⟨R.M.a, n, R.M.m⟩ R.f e w' := by
  have HR : Hid (RAt w g R) := hr
  have _hk : k ≤ 4294967295 := hk
  have _hM := hM
  have c0 := hr.a
  have c1 := hr.x
  have f1 := hr.free 1
  have cp : w.cell? ⟨g, 18, none⟩ = some (.slice b n cb) := by rw [← hp]; exact hr.tl 0
  clear hr
  go_enter Try.func74, Try.ntmps74
  go_wp2
  (try simp only [Exit.inBlock, Exit.then]); (first | refine bodyPost_end (results_none rfl _ _ _) rfl ?_ | refine bodyPost_ret (results_none rfl _ _ _) rfl ?_)
  refine ⟨rfl, HR.out.setX' _ ?_, grown_set1 _ _ _⟩
  omega

set_option maxHeartbeats 400000 in
theorem deed_divide (g k : Nat) (R : Rn) (w : World) (hr : RAt w g R) (hM : R.M.ok) (hk0 : k ≠ 0) :
    Calls Try.prog 81 #[.pointer (some ⟨g, 0, none⟩), .int .u32 (k : Int)] w fun e w' => DeedPost w g R ⟨R.M.a / k, R.M.x, R.M.m⟩ R.f e w' := by
  have HR : Hid (RAt w g R) := hr
  have c0 := hr.a
  have f0 := hr.free 0
  have hz : ((k : Int) == 0) = false := by rw [beq_eq_false_iff_ne]; omega
  have hz3 : ¬ ((k : Int) = 0) := by omega
  have ba := hM.1
  have q1 : ((R.M.a : Int) / (k : Int)) % 4294967296 = ((R.M.a / k : Nat) : Int) := by
    have q0 : R.M.a / k ≤ R.M.a := Nat.div_le_self _ _
    rw [← Int.natCast_ediv]
    generalize R.M.a / k = q at *
    omega
  clear hr
  go_enter Try.func81, Try.ntmps81
  go_wp2
  (try simp only [Exit.inBlock, Exit.then]); (first | refine bodyPost_end (results_none rfl _ _ _) rfl ?_ | refine bodyPost_ret (results_none rfl _ _ _) rfl ?_)
  refine ⟨rfl, HR.out.setA' _ ?_, grown_set1 _ _ _⟩
  first | exact q1 | (simp at q1 ⊢; done)

set_option maxHeartbeats 400000 in
theorem deed_divide0 (g : Nat) (R : Rn) (w : World) (hr : RAt w g R) :
    Calls Try.prog 81 #[.pointer (some ⟨g, 0, none⟩), .int .u32 0] w fun e w' => DeedPost w g R R.M 2 e w' := by
  have R1 := hr.setF 2
  have cf : w.cell? ⟨g, 19, none⟩ = some (.int .i64 R.f) := hr.tl 1
  have f0 := hr.free 19
  clear hr
  go_enter Try.func81, Try.ntmps81
  go_wp2
  (try simp only [Exit.inBlock, Exit.then]); (first | refine bodyPost_end (results_none rfl _ _ _) rfl ?_ | refine bodyPost_ret (results_none rfl _ _ _) rfl ?_)
  exact ⟨rfl, R1, grown_set1 _ _ _⟩

set_option maxHeartbeats 400000 in
theorem deed_remain (g k : Nat) (R : Rn) (w : World) (hr : RAt w g R) (hM : R.M.ok) (hk0 : k ≠ 0) :
    Calls Try.prog 82 #[.pointer (some ⟨g, 0, none⟩), .int .u32 (k : Int)] w fun e w' => DeedPost w g R ⟨R.M.a % k, R.M.x, R.M.m⟩ R.f e w' := by
  have HR : Hid (RAt w g R) := hr
  have c0 := hr.a
  have f0 := hr.free 0
  have hz : ((k : Int) == 0) = false := by rw [beq_eq_false_iff_ne]; omega
  have hz3 : ¬ ((k : Int) = 0) := by omega
  have ba := hM.1
  have q1 : ((R.M.a : Int) % (k : Int)) % 4294967296 = ((R.M.a % k : Nat) : Int) := by
    have q0 : R.M.a % k ≤ R.M.a := Nat.mod_le _ _
    rw [← Int.natCast_emod]
    generalize R.M.a % k = q at *
    omega
  clear hr
  go_enter Try.func82, Try.ntmps82
  go_wp2
  (try simp only [Exit.inBlock, Exit.then]); (first | refine bodyPost_end (results_none rfl _ _ _) rfl ?_ | refine bodyPost_ret (results_none rfl _ _ _) rfl ?_)
  refine ⟨rfl, HR.out.setA' _ ?_, grown_set1 _ _ _⟩
  first | exact q1 | (simp at q1 ⊢; done)

set_option maxHeartbeats 400000 in
theorem deed_remain0 (g : Nat) (R : Rn) (w : World) (hr : RAt w g R) :
    Calls Try.prog 82 #[.pointer (some ⟨g, 0, none⟩), .int .u32 0] w fun e w' => DeedPost w g R R.M 2 e w' := by
  have R1 := hr.setF 2
  have cf : w.cell? ⟨g, 19, none⟩ = some (.int .i64 R.f) := hr.tl 1
  have f0 := hr.free 19
  clear hr
  go_enter Try.func82, Try.ntmps82
  go_wp2
  (try simp only [Exit.inBlock, Exit.then]); (first | refine bodyPost_end (results_none rfl _ _ _) rfl ?_ | refine bodyPost_ret (results_none rfl _ _ _) rfl ?_)
  exact ⟨rfl, R1, grown_set1 _ _ _⟩

end Go.Proofs.Ytencoknpocipbaa
