import Derived.Test.YtcodofamdhcfiaaGreatLotP4
import Derived.Test.YtcodofamdhcfiaaGreatLotP2
import Derived.Handy
import Derived.Laws.Rows
import Derived.Laws.Tables
import Derived.Laws.ResultCell
import Derived.Deep.DeepCutAuto
import Derived.Test.YtcodofamdhcfiaaGreatLotP1
namespace Go.Proofs.YtcodofamdhcfiaaGreat
open Go.RowKit
set_option maxRecDepth 100000
def lkA (l : Lk) : Array Value := #[.bool l.acfc, .bool l.pfc, .int .i64 l.mp]
def exV {α : Type} (d : α) : Except Int α → α
 | .ok a => a
 | .error _ => d
def exE {α : Type} : Except Int α → Int
 | .ok _ => 0
 | .error e => e
theorem Cells.bgc {w : World} {ao : Option Addr} {b : List UInt8} (h : Cells w ao b) {k : Nat} (hk : k < b.length) : ∃ bb off, ao = some ⟨bb, off, none⟩ ∧ ∀ i, i < b.length → w.cell? ⟨bb, off + i, none⟩ = some (.int .u8 (bg b i : Int)) := by
 obtain ⟨bb, off, hao, hc⟩ := h.addr hk
 refine ⟨bb, off, hao, fun i hi => ?_⟩
 rw [hc i hi, bg, List.getD_eq_getElem?_getD, List.getElem?_eq_getElem hi]
 rfl
set_option maxHeartbeats 400000 in
theorem refchk_any (l : Lk) (w : World) : Calls Tryz.prog 28 #[.agg (lkA l)] w fun e w' => e = .returned (.int .i64 (checkF l)) ∧ w.grownBy w' none := by
 obtain ⟨a, p, m⟩ := l
 simp only [lkA]
 by_cases h0 : m < 0
 ·have e : checkF ⟨a, p, m⟩ = 70 := by rw [checkF, if_pos (.inl h0)]
  rw [e]
  go_enter Tryz.func28, Tryz.ntmps28
  go_wp2
  go_ret
  exact ⟨rfl, World.grownBy_alloc _ _ _⟩
 ·by_cases h2 : 2 < m
  ·have e : checkF ⟨a, p, m⟩ = 70 := by rw [checkF, if_pos (.inr h2)]
   rw [e]
   go_enter Tryz.func28, Tryz.ntmps28
   go_wp2
   go_ret
   exact ⟨rfl, World.grownBy_alloc _ _ _⟩
  ·have e : checkF ⟨a, p, m⟩ = 0 := by rw [checkF, if_neg (by simp only; omega)]
   rw [e]
   go_enter Tryz.func28, Tryz.ntmps28
   go_wp2
   go_ret
   exact ⟨rfl, World.grownBy_alloc _ _ _⟩
theorem beq_nat {x k : Nat} (h : x = k) : ((x : Int) == (k : Int)) = true := by rw [h]; simp
theorem beq_nat_no {x k : Nat} (h : x ≠ k) : ((x : Int) == (k : Int)) = false := by rw [beq_eq_false_iff_ne]; omega
set_option maxHeartbeats 1000000 in
theorem refplain_any (l : Lk) (a : Option Addr) (ca : Nat) (b : List UInt8) (w : World) (ha : Cells w a b) :
  Calls Tryz.prog 41 #[.agg (lkA l), .slice a b.length ca] w fun e w' => e = .returned (.tuple #[.int .i64 ((exV 0 (plainV l b) : Nat) : Int), .int .i64 (exE (plainV l b))]) ∧ w.grownBy w' none := by
 obtain ⟨ac, p, m⟩ := l
 simp only [lkA]
 have G0 : w.grownBy (w.alloc (.cells #[.bool ac, .bool p, .int .i64 m] 24)) none := World.grownBy_alloc _ _ _
 have rest : ∀ (hno : ¬ (2 ≤ b.length ∧ bg b 0 = 255 ∧ bg b 1 = 3)), plainV ⟨ac, p, m⟩ b = if ac = true then .ok 0 else if b.length < 2 then .error 72 else .error 73 := fun hno => by rw [plainV, if_neg hno]
 by_cases h2 : 2 ≤ b.length
 ·have h2' : (2 : Int) ≤ (b.length : Int) := by omega
  obtain ⟨bb, o, rfl, hc⟩ := (ha.keptNone G0).bgc (k := 0) (by omega)
  have c0 : (w.alloc (.cells #[.bool ac, .bool p, .int .i64 m] 24)).cell? ⟨bb, o, none⟩ = some (.int .u8 (bg b 0 : Int)) := hc 0 (by omega)
  have c1 := hc 1 (by omega)
  have l0 : (0 : Int) < (b.length : Int) := by omega
  have l1 : (1 : Int) < (b.length : Int) := by omega
  clear ha hc
  by_cases h255 : bg b 0 = 255
  ·have d0 : ((bg b 0 : Int) == 255) = true := beq_nat h255
   by_cases h3 : bg b 1 = 3
   ·have d1 : ((bg b 1 : Int) == 3) = true := beq_nat h3
    have e : plainV ⟨ac, p, m⟩ b = .ok 2 := by rw [plainV, if_pos ⟨h2, h255, h3⟩]
    rw [e]
    clear rest h255 h3 e
    generalize bg b 0 = x at *
    generalize bg b 1 = y at *
    go_enter Tryz.func41, Tryz.ntmps41
    go_wp2
    go_ret2
    exact ⟨rfl, G0⟩
   ·have d1 : ((bg b 1 : Int) == 3) = false := beq_nat_no h3
    rw [rest (fun e => h3 e.2.2), if_neg (show ¬ b.length < 2 by omega)]
    clear rest h255 h3
    generalize bg b 0 = x at *
    generalize bg b 1 = y at *
    cases ac
    all_goals
     go_enter Tryz.func41, Tryz.ntmps41
     go_wp2
     go_ret2
     exact ⟨rfl, G0⟩
  ·have d0 : ((bg b 0 : Int) == 255) = false := beq_nat_no h255
   rw [rest (fun e => h255 e.2.1), if_neg (show ¬ b.length < 2 by omega)]
   clear rest h255
   generalize bg b 0 = x at *
   cases ac
   all_goals
    go_enter Tryz.func41, Tryz.ntmps41
    go_wp2
    go_ret2
    exact ⟨rfl, G0⟩
 ·have h2' : ¬ (2 : Int) ≤ (b.length : Int) := by omega
  rw [rest (fun e => h2 e.1), if_pos (show b.length < 2 by omega)]
  clear rest ha
  cases ac
  all_goals
   go_enter Tryz.func41, Tryz.ntmps41
   go_wp2
   go_ret2
   exact ⟨rfl, G0⟩
set_option maxHeartbeats 1000000 in
theorem refproto_any (l : Lk) (a : Option Addr) (ca : Nat) (b : List UInt8) (p : Nat) (w : World) (ha : Cells w a b) (hp : p ≤ 1099511627776) :
  Calls Tryz.prog 30 #[.agg (lkA l), .slice a b.length ca, .int .i64 (p : Int)] w fun e w' => e = .returned (.tuple #[.int .u32 ((exV (0, 0) (protoV l b p)).1 : Int), .int .i64 ((exV (0, 0) (protoV l b p)).2 : Int), .int .i64 (exE (protoV l b p))]) ∧ w.grownBy w' none := by
 obtain ⟨ac, pf, m⟩ := l
 simp only [lkA]
 have G0 : w.grownBy (w.alloc (.cells #[.bool ac, .bool pf, .int .i64 m] 24)) none := World.grownBy_alloc _ _ _
 by_cases h1 : b.length ≤ p
 ·have h1' : (b.length : Int) ≤ (p : Int) := by omega
  have e : protoV ⟨ac, pf, m⟩ b p = .error 72 := by rw [protoV, if_pos h1]
  rw [e]
  clear ha e
  go_enter Tryz.func30, Tryz.ntmps30
  go_wp2
  go_ret3
  exact ⟨rfl, G0⟩
 ·have h1' : ¬ (b.length : Int) ≤ (p : Int) := by omega
  have l0 : (p : Int) < (b.length : Int) := by omega
  obtain ⟨bb, o, rfl, hc⟩ := (ha.keptNone G0).bgc (k := p) (by omega)
  have c0 := hc p (by omega)
  have b0 := bg_lt b p
  have b1 := bg_lt b (p + 1)
  have w0 : IntKind.u32.wrap (bg b p : Int) = (bg b p : Int) := by rw [IntKind.wrap_u32]; omega
  by_cases hod : bg b p % 2 = 1
  ·have d0 : ((bg b p : Int) % 2 == 1) = true := by
    have : (bg b p : Int) % 2 = 1 := by omega
    rw [this]; rfl
   have e : protoV ⟨ac, pf, m⟩ b p = if pf = true then .ok (bg b p, p + 1) else .error 74 := by rw [protoV, if_neg h1, if_pos hod]
   rw [e]
   clear ha hc e hod h1
   generalize bg b p = x at *
   cases pf
   all_goals
    go_enter Tryz.func30, Tryz.ntmps30
    go_wp2
    go_ret3
    exact ⟨rfl, G0⟩
  ·have d0 : ((bg b p : Int) % 2 == 1) = false := by rw [beq_eq_false_iff_ne]; omega
   by_cases h2 : b.length ≤ p + 1
   ·have h2' : (b.length : Int) ≤ (p : Int) + 1 := by omega
    have e : protoV ⟨ac, pf, m⟩ b p = .error 72 := by rw [protoV, if_neg h1, if_neg hod, if_pos h2]
    rw [e]
    clear ha hc e hod h1 h2
    generalize bg b p = x at *
    go_enter Tryz.func30, Tryz.ntmps30
    go_wp2
    go_ret3
    exact ⟨rfl, G0⟩
   ·have h2' : ¬ (b.length : Int) ≤ (p : Int) + 1 := by omega
    have l1 : (p : Int) + 1 < (b.length : Int) := by omega
    have s1 : ((p : Int) + 1).toNat = p + 1 := by omega
    have c1 := hc (p + 1) (by omega)
    have w1 : IntKind.u32.wrap (bg b (p + 1) : Int) = (bg b (p + 1) : Int) := by rw [IntKind.wrap_u32]; omega
    have e : protoV ⟨ac, pf, m⟩ b p = if bg b (p + 1) % 2 = 0 then .error 74 else .ok (256 * bg b p + bg b (p + 1), p + 2) := by rw [protoV, if_neg h1, if_neg hod, if_neg h2]
    rw [e]
    clear ha hc e hod h1 h2
    by_cases hev : bg b (p + 1) % 2 = 0
    ·have d1 : ((bg b (p + 1) : Int) % 2 == 0) = true := by
      have : (bg b (p + 1) : Int) % 2 = 0 := by omega
      rw [this]; rfl
     rw [if_pos hev]
     clear hev
     generalize bg b (p + 1) = y at *
     generalize bg b p = x at *
     go_enter Tryz.func30, Tryz.ntmps30
     go_wp2
     go_ret3
     exact ⟨rfl, G0⟩
    ·have d1 : ((bg b (p + 1) : Int) % 2 == 0) = false := by rw [beq_eq_false_iff_ne]; omega
     rw [if_neg hev]
     clear hev
     generalize bg b (p + 1) = y at *
     generalize bg b p = x at *
     go_enter Tryz.func30, Tryz.ntmps30
     go_wp2
     go_ret3
     exact ⟨rfl, G0⟩
theorem mod_and (h k : Nat) (hh : h < 4294967296) (hk : k ≤ 32) : bits .and .u32 (h : Int) ((2 ^ k - 1 : Nat) : Int) = ((h % 2 ^ k : Nat) : Int) := by
 have hlt : 2 ^ k ≤ 2 ^ 32 := Nat.pow_le_pow_right (by decide) hk
 have := u32_and_nat h (2 ^ k - 1) hh (by omega)
 rw [this, Nat.and_two_pow_sub_one_eq_mod]
theorem clear_top (h k : Nat) (hk : k < 32) (hh : h < 2 ^ (k + 1)) : h &&& (4294967295 - 2 ^ k) = h % 2 ^ k := by
 have hp : 2 ^ k < 2 ^ 32 := Nat.pow_lt_pow_right (by decide) hk
 apply Nat.eq_of_testBit_eq
 intro i
 rw [Nat.testBit_and, show 4294967295 - 2 ^ k = 2 ^ 32 - (2 ^ k + 1) by omega, Nat.testBit_two_pow_sub_succ hp, Nat.testBit_mod_two_pow, Nat.testBit_two_pow]
 by_cases hi : k + 1 ≤ i
 ·have : h.testBit i = false := Nat.testBit_lt_two_pow (Nat.lt_of_lt_of_le hh (Nat.pow_le_pow_right (by decide) hi))
  rw [this]; simp
 ·by_cases e : i = k
  ·subst e; simp
  ·have h1 : i < k := by omega
   have h2 : i < 32 := by omega
   have h3 : ¬ k = i := fun e' => e e'.symm
   simp [h1, h2, h3]
theorem notop (h k : Nat) (hk : k < 32) (hh : h < 2 ^ (k + 1)) (h32 : h < 4294967296) : bits .andNot .u32 (h : Int) ((2 ^ k : Nat) : Int) = ((h % 2 ^ k : Nat) : Int) := by
 have hp : 2 ^ k < 2 ^ 32 := Nat.pow_lt_pow_right (by decide) hk
 rw [u32_andNot_nat h (2 ^ k) h32 (by omega), clear_top h k hk hh]
theorem and_two (h k : Nat) : h &&& 2 ^ k = if h.testBit k = true then 2 ^ k else 0 := by
 apply Nat.eq_of_testBit_eq
 intro i
 rw [Nat.testBit_and, Nat.testBit_two_pow]
 by_cases e : k = i
 ·subst e
  cases hb : h.testBit k <;> simp
 ·cases hb : h.testBit k <;> simp [e]
theorem bit_of (h k : Nat) (hk : k < 32) (h32 : h < 4294967296) : (bits .and .u32 (h : Int) ((2 ^ k : Nat) : Int) != 0) = decide (h / 2 ^ k % 2 = 1) := by
 have hp : 2 ^ k < 2 ^ 32 := Nat.pow_lt_pow_right (by decide) hk
 have hpos : 0 < 2 ^ k := Nat.pos_of_ne_zero (by simp)
 rw [u32_and_nat h (2 ^ k) h32 (by omega), and_two, ← Nat.testBit_eq_decide_div_mod_eq]
 cases h.testBit k with
 | false => rfl
 | true =>
  rw [if_pos rfl, bne_iff_ne]
  omega
theorem results_tmp5 {fn : Func} {t u v x y : Tmp} (h : fn.results = #[.tmp t, .tmp u, .tmp v, .tmp x, .tmp y]) (tmps : Array Value) (P : Program) (w : World) :
  (results fn tmps).run P w = .ok (.tuple #[tmps.getD t undef, tmps.getD u undef, tmps.getD v undef, tmps.getD x undef, tmps.getD y undef]) w := by
 simp [results, h]
set_option maxHeartbeats 1000000 in
theorem refhead_any (l : Lk) (a : Option Addr) (ca : Nat) (b : List UInt8) (p : Nat) (w : World) (ha : Cells w a b) (hn : b.length ≤ 140737488355328) (hp : p ≤ 1099511627776) :
  Calls Tryz.prog 42 #[.agg (lkA l), .slice a b.length ca, .int .i64 (p : Int)] w fun e w' => e = .returned (.tuple #[.bool (exV (false, false, 0, 0) (headV l b p)).1, .bool (exV (false, false, 0, 0) (headV l b p)).2.1, .int .u32 ((exV (false, false, 0, 0) (headV l b p)).2.2.1 : Int), .int .i64 ((exV (false, false, 0, 0) (headV l b p)).2.2.2 : Int), .int .i64 (exE (headV l b p))]) ∧ w.grownBy w' none := by
 obtain ⟨ac, pf, m⟩ := l
 simp only [lkA]
 have G0 : w.grownBy (w.alloc (.cells #[.bool ac, .bool pf, .int .i64 m] 24)) none := World.grownBy_alloc _ _ _
 have H : Hid (Cells (w.alloc (.cells #[.bool ac, .bool pf, .int .i64 m] 24)) a b) := ha.keptNone G0
 clear ha
 by_cases hm : m = 2
 ·have hm' : (m == 2) = true := by rw [hm]; rfl
  have hsz : szV ⟨ac, pf, m⟩ = 4 := by rw [szV, if_pos hm]
  have htp : tpV ⟨ac, pf, m⟩ = 1073741824 := by rw [tpV, if_pos hm]
  have hsp : spV ⟨ac, pf, m⟩ = 16777216 := by rw [spV, if_pos hm]
  have hgv : getV b (p : Int) 4 = if p + 4 ≤ b.length then (numAt b p 4 : Int) else 0 := by
   unfold getV okB
   by_cases hq : p + 4 ≤ b.length
   ·rw [if_pos hq, if_pos (decide_eq_true ⟨by omega, by omega, by omega⟩)]
    rfl
   ·rw [if_neg hq, if_neg (by simp; omega)]
  have hok : okB b.length (p : Int) 4 = decide (p + 4 ≤ b.length) := by
   unfold okB
   rw [decide_eq_decide]
   omega
  have CG := refget_any a ca b (p : Int) 4 _ H.out hn
  rw [hgv, hok] at CG
  have hlt := numAt_lt b p 4
  rw [show 256 ^ 4 = 4294967296 from rfl] at hlt
  clear hgv hok
  by_cases hs : p + 4 ≤ b.length
  ·rw [if_pos hs, decide_eq_true hs] at CG
   generalize hh : numAt b p 4 = h at *
   have e : headV ⟨ac, pf, m⟩ b p = if h % 1073741824 ≠ h % 16777216 then .error 75 else .ok (decide (h / 2147483648 = 1), decide (h / 1073741824 % 2 = 1), h % 16777216, p + 4) := by
    unfold headV
    rw [hsz, htp, hsp, hh, if_neg (by omega)]
   rw [e]
   have f1 : bits BinOp.and IntKind.u32 (h : Int) 16777215 = ((h % 16777216 : Nat) : Int) := mod_and h 24 (by omega) (by decide)
   have f2 : bits BinOp.andNot IntKind.u32 (h : Int) 2147483648 = ((h % 2147483648 : Nat) : Int) := notop h 31 (by decide) (by omega) (by omega)
   have f3 : bits BinOp.andNot IntKind.u32 ((h % 2147483648 : Nat) : Int) 1073741824 = ((h % 1073741824 : Nat) : Int) := by
    have := notop (h % 2147483648) 30 (by decide) (by have : h % 2147483648 < 2147483648 := Nat.mod_lt _ (by decide); exact this) (by omega)
    rw [show h % 2147483648 % 2 ^ 30 = h % 1073741824 from by omega] at this
    exact this
   have f4 : (bits BinOp.and IntKind.u32 (h : Int) 2147483648 != 0) = decide (h / 2147483648 = 1) := by
    refine (bit_of h 31 (by decide) (by omega)).trans ?_
    rw [decide_eq_decide]
    omega
   have f5 : (bits BinOp.and IntKind.u32 (h : Int) 1073741824 != 0) = decide (h / 1073741824 % 2 = 1) := bit_of h 30 (by decide) (by omega)
   obtain ⟨t1, ht1⟩ : ∃ t1 : Nat, h % 2147483648 = t1 := ⟨_, rfl⟩
   obtain ⟨t2, ht2⟩ : ∃ t2 : Nat, h % 1073741824 = t2 := ⟨_, rfl⟩
   obtain ⟨t3, ht3⟩ : ∃ t3 : Nat, h % 16777216 = t3 := ⟨_, rfl⟩
   obtain ⟨B1, hB1⟩ : ∃ B1 : Bool, decide (h / 2147483648 = 1) = B1 := ⟨_, rfl⟩
   obtain ⟨B2, hB2⟩ : ∃ B2 : Bool, decide (h / 1073741824 % 2 = 1) = B2 := ⟨_, rfl⟩
   rw [ht1] at f2 f3
   rw [ht2] at f3 ⊢
   rw [ht3] at f1 ⊢
   rw [hB1] at f4 ⊢
   rw [hB2] at f5 ⊢
   clear ht1 ht2 ht3 hB1 hB2 e hh hm hsz htp hsp
   by_cases hr : t2 = t3
   ·have hr' : ((t2 : Int) != (t3 : Int)) = false := by rw [hr]; simp
    rw [if_neg (fun e => e hr)]
    clear hr
    go_enter Tryz.func42, Tryz.ntmps42
    go_wp2_with fail
    refine CG.mono ?_
    rintro e w1 ⟨rfl, rfl⟩
    go_wp2
    refine bodyPost_ret (results_tmp5 rfl _ _ _) rfl ?_
    exact ⟨rfl, G0⟩
   ·have hr' : ((t2 : Int) != (t3 : Int)) = true := by rw [bne_iff_ne]; omega
    rw [if_pos hr]
    clear hr
    go_enter Tryz.func42, Tryz.ntmps42
    go_wp2_with fail
    refine CG.mono ?_
    rintro e w1 ⟨rfl, rfl⟩
    go_wp2
    refine bodyPost_ret (results_tmp5 rfl _ _ _) rfl ?_
    exact ⟨rfl, G0⟩
  ·rw [if_neg hs, decide_eq_false hs] at CG
   have e : headV ⟨ac, pf, m⟩ b p = .error 72 := by
    unfold headV
    rw [hsz, if_pos (by omega)]
   rw [e]
   clear e hlt hm hsz htp hsp
   go_enter Tryz.func42, Tryz.ntmps42
   go_wp2_with fail
   refine CG.mono ?_
   rintro e w1 ⟨rfl, rfl⟩
   go_wp2
   refine bodyPost_ret (results_tmp5 rfl _ _ _) rfl ?_
   exact ⟨rfl, G0⟩
 ·have hm' : (m == 2) = false := by rw [beq_eq_false_iff_ne]; exact hm
  have hsz : szV ⟨ac, pf, m⟩ = 2 := by rw [szV, if_neg hm]
  have htp : tpV ⟨ac, pf, m⟩ = 16384 := by rw [tpV, if_neg hm]
  have hsp : spV ⟨ac, pf, m⟩ = 4096 := by rw [spV, if_neg hm]
  have hgv : getV b (p : Int) 2 = if p + 2 ≤ b.length then (numAt b p 2 : Int) else 0 := by
   unfold getV okB
   by_cases hq : p + 2 ≤ b.length
   ·rw [if_pos hq, if_pos (decide_eq_true ⟨by omega, by omega, by omega⟩)]
    rfl
   ·rw [if_neg hq, if_neg (by simp; omega)]
  have hok : okB b.length (p : Int) 2 = decide (p + 2 ≤ b.length) := by
   unfold okB
   rw [decide_eq_decide]
   omega
  have CG := refget_any a ca b (p : Int) 2 _ H.out hn
  rw [hgv, hok] at CG
  have hlt := numAt_lt b p 2
  rw [show 256 ^ 2 = 65536 from rfl] at hlt
  clear hgv hok
  by_cases hs : p + 2 ≤ b.length
  ·rw [if_pos hs, decide_eq_true hs] at CG
   generalize hh : numAt b p 2 = h at *
   have e : headV ⟨ac, pf, m⟩ b p = if h % 16384 ≠ h % 4096 then .error 75 else .ok (decide (h / 32768 = 1), decide (h / 16384 % 2 = 1), h % 4096, p + 2) := by
    unfold headV
    rw [hsz, htp, hsp, hh, if_neg (by omega)]
   rw [e]
   have f1 : bits BinOp.and IntKind.u32 (h : Int) 4095 = ((h % 4096 : Nat) : Int) := mod_and h 12 (by omega) (by decide)
   have f2 : bits BinOp.andNot IntKind.u32 (h : Int) 32768 = ((h % 32768 : Nat) : Int) := notop h 15 (by decide) (by omega) (by omega)
   have f3 : bits BinOp.andNot IntKind.u32 ((h % 32768 : Nat) : Int) 16384 = ((h % 16384 : Nat) : Int) := by
    have := notop (h % 32768) 14 (by decide) (by have : h % 32768 < 32768 := Nat.mod_lt _ (by decide); exact this) (by omega)
    rw [show h % 32768 % 2 ^ 14 = h % 16384 from by omega] at this
    exact this
   have f4 : (bits BinOp.and IntKind.u32 (h : Int) 32768 != 0) = decide (h / 32768 = 1) := by
    refine (bit_of h 15 (by decide) (by omega)).trans ?_
    rw [decide_eq_decide]
    omega
   have f5 : (bits BinOp.and IntKind.u32 (h : Int) 16384 != 0) = decide (h / 16384 % 2 = 1) := bit_of h 14 (by decide) (by omega)
   obtain ⟨t1, ht1⟩ : ∃ t1 : Nat, h % 32768 = t1 := ⟨_, rfl⟩
   obtain ⟨t2, ht2⟩ : ∃ t2 : Nat, h % 16384 = t2 := ⟨_, rfl⟩
   obtain ⟨t3, ht3⟩ : ∃ t3 : Nat, h % 4096 = t3 := ⟨_, rfl⟩
   obtain ⟨B1, hB1⟩ : ∃ B1 : Bool, decide (h / 32768 = 1) = B1 := ⟨_, rfl⟩
   obtain ⟨B2, hB2⟩ : ∃ B2 : Bool, decide (h / 16384 % 2 = 1) = B2 := ⟨_, rfl⟩
   rw [ht1] at f2 f3
   rw [ht2] at f3 ⊢
   rw [ht3] at f1 ⊢
   rw [hB1] at f4 ⊢
   rw [hB2] at f5 ⊢
   clear ht1 ht2 ht3 hB1 hB2 e hh hm hsz htp hsp
   by_cases hr : t2 = t3
   ·have hr' : ((t2 : Int) != (t3 : Int)) = false := by rw [hr]; simp
    rw [if_neg (fun e => e hr)]
    clear hr
    go_enter Tryz.func42, Tryz.ntmps42
    go_wp2_with fail
    refine CG.mono ?_
    rintro e w1 ⟨rfl, rfl⟩
    go_wp2
    refine bodyPost_ret (results_tmp5 rfl _ _ _) rfl ?_
    exact ⟨rfl, G0⟩
   ·have hr' : ((t2 : Int) != (t3 : Int)) = true := by rw [bne_iff_ne]; omega
    rw [if_pos hr]
    clear hr
    go_enter Tryz.func42, Tryz.ntmps42
    go_wp2_with fail
    refine CG.mono ?_
    rintro e w1 ⟨rfl, rfl⟩
    go_wp2
    refine bodyPost_ret (results_tmp5 rfl _ _ _) rfl ?_
    exact ⟨rfl, G0⟩
  ·rw [if_neg hs, decide_eq_false hs] at CG
   have e : headV ⟨ac, pf, m⟩ b p = .error 72 := by
    unfold headV
    rw [hsz, if_pos (by omega)]
   rw [e]
   clear e hlt hm hsz htp hsp
   go_enter Tryz.func42, Tryz.ntmps42
   go_wp2_with fail
   refine CG.mono ?_
   rintro e w1 ⟨rfl, rfl⟩
   go_wp2
   refine bodyPost_ret (results_tmp5 rfl _ _ _) rfl ?_
   exact ⟨rfl, G0⟩
def vwA (v : Vw) : Array Value := #[.int .u32 (v.proto : Int), .bool v.multi, .bool v.beg, .bool v.fin, .int .u32 (v.seq : Int), .int .i64 (v.pos : Int), .int .i64 (v.net : Int), .int .i64 (v.next : Int), .int .i64 (v.load : Int)]
def VAt (w : World) (g t : Nat) (cs : Array Value) : Prop := w.heap[g]? = some (.cells cs t (0, 0))
theorem VAt.cell {w : World} {g t : Nat} {cs : Array Value} (h : VAt w g t cs) (i : Nat) : w.cell? ⟨g, i, none⟩ = cs[i]? := cell_of_row w g i cs t (0, 0) h
theorem VAt.free {w : World} {g t : Nat} {cs : Array Value} (h : VAt w g t cs) (i : Nat) : w.frozen? ⟨g, i, none⟩ = false := by
 unfold VAt at h
 simp [World.frozen?, h]
theorem VAt.lt {w : World} {g t : Nat} {cs : Array Value} (h : VAt w g t cs) : g < w.heap.size := by
 unfold VAt at h
 by_cases hb : g < w.heap.size
 ·exact hb
 ·rw [Array.getElem?_eq_none (by omega)] at h; cases h
theorem VAt.grown {w w' : World} {g t : Nat} {cs : Array Value} {row : Option Nat} (h : VAt w g t cs) (G : w.grownBy w' row) (hr : row ≠ some g) : VAt w' g t cs := by
 have := G.block g h.lt (Ne.symm hr)
 unfold VAt at *
 rw [this, h]
theorem VAt.kept {w w' : World} {g t : Nat} {cs : Array Value} (h : VAt w g t cs) (G : w.grownBy w' none) : VAt w' g t cs := h.grown G (by simp)
theorem VAt.set {w : World} {g t : Nat} {cs : Array Value} (h : VAt w g t cs) (i : Nat) (v : Value) : VAt (w.setCell ⟨g, i, none⟩ v) g t (cs.setIfInBounds i v) := by
 unfold VAt at *
 simp only [World.setCell, Array.getElem?_modify, h, if_true, Option.map_some]
 rfl
theorem VAt.alloc (w : World) (t : Nat) (cs : Array Value) : VAt (w.alloc (.cells cs t)) w.heap.size t cs := heap_alloc_new w _
theorem VAt.setRow {w : World} {g t : Nat} {cs : Array Value} (h : VAt w g t cs) (ds : Array Value) : VAt (w.setRow g ds) g t ds := by
 unfold VAt at *
 exact setRow_heap w g _ _ t _ h
theorem vheap_setRow_ne (w : World) (g k : Nat) (cs : Array Value) (h : k ≠ g) : (w.setRow g cs).heap[k]? = w.heap[k]? := by
 simp [World.setRow, Array.getElem?_modify, Ne.symm h]
theorem vgrown_setRow {w W : World} {row : Option Nat} (G : w.grownBy W row) (g : Nat) (cs : Array Value) (hg : row = some g ∨ w.heap.size ≤ g) : w.grownBy (W.setRow g cs) row := by
 refine ⟨G.os, G.tape, G.output, by rw [setRow_size]; exact G.size, fun i hi hr => ?_⟩
 have : i ≠ g := by
  rintro rfl
  rcases hg with hg | hg
  ·exact hr hg.symm
  ·omega
 rw [vheap_setRow_ne _ _ _ _ this]
 exact G.block i hi hr
theorem VAt.other {w : World} {g t k : Nat} {cs : Array Value} (h : VAt w g t cs) (ds : Array Value) (hk : g ≠ k) : VAt (w.setRow k ds) g t cs := by
 unfold VAt at *
 rw [vheap_setRow_ne _ _ _ _ hk]
 exact h
theorem VAt.setOther {w : World} {g t k i : Nat} {cs : Array Value} (h : VAt w g t cs) (u : Value) (hk : g ≠ k) : VAt (w.setCell ⟨k, i, none⟩ u) g t cs := by
 unfold VAt at *
 simp only [World.setCell, Array.getElem?_modify, if_neg (Ne.symm hk)]
 exact h
theorem ret_row {P : Program} {fn : Func} {p u : Tmp} {ty : TypeId} (h : fn.results = #[.cell p ty, .tmp u]) (tmps : Array Value) (w : World) (g : Nat) (cs : Array Value) (d : TypeDesc) (hp : tmps.getD p undef = .pointer (some ⟨g, 0, none⟩)) (A : VAt w g ty cs)
  (hu : P.underlying ty = some d) (hd : (match d with | .struct _ | .array _ _ => true | _ => false) = true) (hi : (P.info? ty).map (·.size) = some cs.size) : (results fn tmps).run P w = .ok (.tuple #[.agg cs, tmps.getD u undef]) w := by
 rw [results_cell_tmp h, hp]
 have := run_loadVar_row (P := P) w g ty ty cs (0, 0) _ A hu hd hi
 simp only [asAddr, Sem.run_pure, Result.andThen, this]
theorem size42 : (Tryz.prog.info? 42).map (·.size) = some 9 := by kernel_rfl
theorem size24 : (Tryz.prog.info? 24).map (·.size) = some 3 := by kernel_rfl
theorem vwA_all (v : Vw) : (vwA v).all (·.oneCell') = true := by simp [vwA, Value.oneCell']
theorem two_blocks (w : World) (l : Lk) (t s : Nat) (cs : Array Value) :
  VAt ((w.alloc (.cells (lkA l) t)).alloc (.cells cs s)) w.heap.size t (lkA l) ∧ VAt ((w.alloc (.cells (lkA l) t)).alloc (.cells cs s)) (w.heap.size + 1) s cs ∧ w.grownBy ((w.alloc (.cells (lkA l) t)).alloc (.cells cs s)) none := by
 have A0 := VAt.alloc w t (lkA l)
 have A1 := VAt.alloc (w.alloc (.cells (lkA l) t)) s cs
 have K1 := World.grownBy_alloc (w.alloc (.cells (lkA l) t)) (.cells cs s) none
 rw [show (w.alloc (.cells (lkA l) t)).heap.size = w.heap.size + 1 by simp] at A1
 exact ⟨A0.kept K1, A1, grown_trans (World.grownBy_alloc w _ none) K1⟩
theorem plain_err {l : Lk} {b : List UInt8} {e : Int} (h : plainV l b = .error e) : (e != 0) = true := by
 unfold plainV at h
 split at h
 ·cases h
 ·split at h
  ·cases h
  ·split at h <;> cases h <;> rfl
theorem proto_err {l : Lk} {b : List UInt8} {p : Nat} {e : Int} (h : protoV l b p = .error e) : (e != 0) = true := by
 unfold protoV at h
 split at h
 ·cases h; rfl
 ·split at h
  ·split at h <;> cases h; rfl
  ·split at h
   ·cases h; rfl
   ·split at h <;> cases h; rfl
theorem head_err {l : Lk} {b : List UInt8} {p : Nat} {e : Int} (h : headV l b p = .error e) : (e != 0) = true := by
 unfold headV at h
 split at h
 ·cases h; rfl
 ·split at h <;> cases h; rfl
set_option maxRecDepth 100000 in
set_option maxHeartbeats 4000000 in
theorem refpiece_any (l : Lk) (a : Option Addr) (ca : Nat) (b : List UInt8) (w : World) (ha : Cells w a b) (hn : b.length ≤ 140737488355328) :
  Calls Tryz.prog 29 #[.agg (lkA l), .slice a b.length ca] w fun e w' => e = .returned (.tuple #[.agg (vwA (exV Vw.zero (pieceV l b))), .int .i64 (exE (pieceV l b))]) ∧ w.grownBy w' none := by
 obtain ⟨LA, RA, G0⟩ := two_blocks w l 24 42 (vwA Vw.zero)
 have HA : Hid (Cells _ a b) := ha.keptNone G0
 have HS : Hid (∀ v : Vw, (Tryz.prog.info? 42).map (·.size) = some (vwA v).size) := fun v => size42
 have HL : Hid ((Tryz.prog.info? 24).map (·.size) = some (lkA l).size) := size24
 clear ha
 have HP : Hid (pieceV l b = if 65535 < b.length then .error 71
  else (plainV l b).bind fun p => (protoV l b p).bind fun q =>
  if l.mp = 0 ∨ q.1 ≠ 61 then .ok ⟨q.1, false, false, false, 0, q.2, 0, 0, 0⟩
  else (headV l b q.2).bind fun h => .ok ⟨q.1, true, h.1, h.2.1, h.2.2.1, h.2.2.2, 0, 0, 0⟩) := rfl
 generalize pieceV l b = ans at *
 go_enter Tryz.func29, Tryz.ntmps29
 go_upto_region 1 with fail
 rw [show (w.alloc (.cells (lkA l) 24)).alloc (.cells #[.int .u32 0, .bool false, .bool false, .bool false, .int .u32 0, .int .i64 0, .int .i64 0, .int .i64 0, .int .i64 0] 42) = (w.alloc (.cells (lkA l) 24)).alloc (.cells (vwA Vw.zero) 42) from rfl]
 generalize (w.alloc (.cells (lkA l) 24)).alloc (.cells (vwA Vw.zero) 42) = wa at *
 obtain ⟨L, hL⟩ : ∃ L, w.heap.size = L := ⟨_, rfl⟩
 obtain ⟨R, hR, hR2⟩ : ∃ R, w.heap.size + 1 = R ∧ w.heap.size ≤ R := ⟨_, rfl, by omega⟩
 rw [hR] at RA ⊢
 rw [hL] at LA ⊢
 clear hR hL
 have HR2 : Hid (w.heap.size ≤ R) := hR2
 clear hR2
 by_cases hlen : 65535 < b.length
 ·have hlen' : (65535 : Int) < (b.length : Int) := by omega
  go_wp2_with (refine wpList_store_row rfl 42 (.tmp 4) (.tmp 15) rfl R (vwA Vw.zero) rfl rfl 42 _ RA (HS.out _) rfl (vwA_all _) ?_)
  refine bodyPost_ret (ret_row rfl _ _ R (vwA Vw.zero) _ rfl (RA.setRow _) Tryz.underlying42 rfl (HS.out _)) rfl ?_
  exact ⟨by rw [HP.out, if_pos hlen]; rfl, vgrown_setRow G0 _ _ (.inr HR2.out)⟩
 ·have hlen' : ¬ (65535 : Int) < (b.length : Int) := by omega
  have HP1 := HP.out
  rw [if_neg hlen] at HP1
  have CP := refplain_any l a ca b wa HA.out
  clear HP
  cases hp : plainV l b with
  | error e =>
   rw [hp] at CP HP1
   have hz := plain_err hp
   have HP : Hid (ans = .error e) := HP1
   clear HP1 hp
   go_wp2_with (refine wpList_load_row rfl 24 (.tmp 2) rfl L rfl 24 (lkA l) (0, 0) _ LA Tryz.underlying24 rfl HL.out ?_)
   refine CP.mono ?_
   rintro e' w1 ⟨rfl, K⟩
   have RA1 := RA.kept K
   have G1 := grown_trans G0 K
   simp only [exV, exE]
   clear CP RA LA HA G0 K
   go_wp2_with (refine wpList_store_row rfl 42 (.tmp 4) (.tmp 24) rfl R (vwA Vw.zero) rfl rfl 42 _ RA1 (HS.out _) rfl (vwA_all _) ?_)
   refine bodyPost_ret (ret_row rfl _ _ R (vwA Vw.zero) _ rfl (RA1.setRow _) Tryz.underlying42 rfl (HS.out _)) rfl ?_
   exact ⟨by rw [HP.out]; rfl, vgrown_setRow G1 _ _ (.inr HR2.out)⟩
  | ok p =>
   rw [hp] at CP HP1
   have hp2 := plain_le hp
   have HP2 : Hid (ans = (protoV l b p).bind fun q =>
    if l.mp = 0 ∨ q.1 ≠ 61 then .ok ⟨q.1, false, false, false, 0, q.2, 0, 0, 0⟩
    else (headV l b q.2).bind fun h => .ok ⟨q.1, true, h.1, h.2.1, h.2.2.1, h.2.2.2, 0, 0, 0⟩) := HP1
   clear HP1 hp
   go_upto_region 4 with (refine wpList_load_row rfl 24 (.tmp 2) rfl L rfl 24 (lkA l) (0, 0) _ LA Tryz.underlying24 rfl HL.out ?_)
   refine CP.mono ?_
   rintro e' w1 ⟨rfl, K⟩
   have RA1 := RA.kept K
   have LA1 := LA.kept K
   have HA1 : Hid (Cells w1 a b) := HA.out.keptNone K
   have G1 := grown_trans G0 K
   simp only [exV, exE]
   clear CP RA LA HA G0 K
   go_upto_region 4 with fail
   have CQ := refproto_any l a ca b p w1 HA1.out (by omega)
   cases hq : protoV l b p with
   | error e =>
    rw [hq] at CQ HP2
    have hz := proto_err hq
    have HP : Hid (ans = .error e) := HP2.out
    clear HP2 hq
    go_wp2_with (refine wpList_load_row rfl 24 (.tmp 2) rfl L rfl 24 (lkA l) (0, 0) _ LA1 Tryz.underlying24 rfl HL.out ?_)
    refine CQ.mono ?_
    rintro e' w2 ⟨rfl, K⟩
    have RA2 := RA1.kept K
    have G2 := grown_trans G1 K
    simp only [exV, exE]
    clear CQ RA1 LA1 HA1 G1 K
    go_wp2_with (refine wpList_store_row rfl 42 (.tmp 4) (.tmp 36) rfl R (vwA Vw.zero) rfl rfl 42 _ RA2 (HS.out _) rfl (vwA_all _) ?_)
    refine bodyPost_ret (ret_row rfl _ _ R (vwA Vw.zero) _ rfl (RA2.setRow _) Tryz.underlying42 rfl (HS.out _)) rfl ?_
    exact ⟨by rw [HP.out]; rfl, vgrown_setRow G2 _ _ (.inr HR2.out)⟩
   | ok q =>
    obtain ⟨pr, at1⟩ := q
    have hq2 : at1 ≤ b.length := (proto_grows (c := []) hq).2.2
    rw [hq] at CQ HP2
    have HP3 : Hid (ans = if l.mp = 0 ∨ pr ≠ 61 then .ok ⟨pr, false, false, false, 0, at1, 0, 0, 0⟩
     else (headV l b at1).bind fun h => .ok ⟨pr, true, h.1, h.2.1, h.2.2.1, h.2.2.2, 0, 0, 0⟩) := HP2.out
    clear HP2 hq
    go_upto_region 7 with (refine wpList_load_row rfl 24 (.tmp 2) rfl L rfl 24 (lkA l) (0, 0) _ LA1 Tryz.underlying24 rfl HL.out ?_)
    refine CQ.mono ?_
    rintro e' w2 ⟨rfl, K⟩
    have RA2 := RA1.kept K
    have LA2 := LA1.kept K
    have HA2 : Hid (Cells w2 a b) := HA1.out.keptNone K
    have G2 := grown_trans G1 K
    simp only [exV, exE]
    clear CQ RA1 LA1 HA1 G1 K
    go_upto_region 9 with fail
    have c2 : w2.cell? ⟨L, 2, none⟩ = some (.int .i64 l.mp) := LA2.cell 2
    by_cases hm : l.mp = 0 ∨ pr ≠ 61
    ·have HP : Hid (ans = .ok ⟨pr, false, false, false, 0, at1, 0, 0, 0⟩) := by
      show ans = _
      rw [HP3.out, if_pos hm]
     have hd : (l.mp == 0) = true ∨ (l.mp == 0) = false ∧ ((pr : Int) != 61) = true := by
      by_cases h0 : l.mp = 0
      ·exact .inl (by rw [h0]; rfl)
      ·exact .inr ⟨by rw [beq_eq_false_iff_ne]; exact h0, by rw [bne_iff_ne]; have := hm.resolve_left h0; omega⟩
     clear HP3 hm
     rcases hd with hd | ⟨hd, hd2⟩
     all_goals
      go_wp2_with (refine wpList_store_row rfl 42 (.tmp 4) (.tmp 47) rfl R (vwA ⟨pr, false, false, false, 0, at1, 0, 0, 0⟩) rfl rfl 42 _ RA2 (HS.out _) rfl (vwA_all _) ?_)
      refine bodyPost_ret (ret_row rfl _ _ R (vwA ⟨pr, false, false, false, 0, at1, 0, 0, 0⟩) _ rfl (RA2.setRow _) Tryz.underlying42 rfl (HS.out _)) rfl ?_
      exact ⟨by rw [HP.out]; rfl, vgrown_setRow G2 _ _ (.inr HR2.out)⟩
    ·have h0 : (l.mp == 0) = false := by rw [beq_eq_false_iff_ne]; exact fun e => hm (.inl e)
     have h61 : ((pr : Int) != 61) = false := by rw [bne_eq_false_iff_eq]; have : pr = 61 := Classical.byContradiction fun e => hm (.inr e); omega
     have HP4 : Hid (ans = (headV l b at1).bind fun h => .ok ⟨pr, true, h.1, h.2.1, h.2.2.1, h.2.2.2, 0, 0, 0⟩) := by
      show ans = _
      rw [HP3.out, if_neg hm]
     clear HP3 hm
     have CH := refhead_any l a ca b at1 w2 HA2.out hn (by omega)
     cases hh : headV l b at1 with
     | error e =>
      rw [hh] at CH HP4
      have hz := head_err hh
      have HP : Hid (ans = .error e) := HP4.out
      clear HP4 hh
      go_wp2_with (refine wpList_load_row rfl 24 (.tmp 2) rfl L rfl 24 (lkA l) (0, 0) _ LA2 Tryz.underlying24 rfl HL.out ?_)
      refine CH.mono ?_
      rintro e' w3 ⟨rfl, K⟩
      have RA3 := RA2.kept K
      have G3 := grown_trans G2 K
      simp only [exV, exE]
      clear CH RA2 LA2 HA2 G2 K
      go_wp2_with (refine wpList_store_row rfl 42 (.tmp 4) (.tmp 60) rfl R (vwA Vw.zero) rfl rfl 42 _ RA3 (HS.out _) rfl (vwA_all _) ?_)
      refine bodyPost_ret (ret_row rfl _ _ R (vwA Vw.zero) _ rfl (RA3.setRow _) Tryz.underlying42 rfl (HS.out _)) rfl ?_
      exact ⟨by rw [HP.out]; rfl, vgrown_setRow G3 _ _ (.inr HR2.out)⟩
     | ok h =>
      obtain ⟨be, en, sq, at2⟩ := h
      rw [hh] at CH HP4
      have HP : Hid (ans = .ok ⟨pr, true, be, en, sq, at2, 0, 0, 0⟩) := HP4.out
      clear HP4 hh
      go_wp2_with (refine wpList_load_row rfl 24 (.tmp 2) rfl L rfl 24 (lkA l) (0, 0) _ LA2 Tryz.underlying24 rfl HL.out ?_)
      refine CH.mono ?_
      rintro e' w3 ⟨rfl, K⟩
      have RA3 := RA2.kept K
      have G3 := grown_trans G2 K
      simp only [exV, exE]
      clear CH RA2 LA2 HA2 G2 K
      go_wp2_with (refine wpList_store_row rfl 42 (.tmp 4) (.tmp 67) rfl R (vwA ⟨pr, true, be, en, sq, at2, 0, 0, 0⟩) rfl rfl 42 _ RA3 (HS.out _) rfl (vwA_all _) ?_)
      refine bodyPost_ret (ret_row rfl _ _ R (vwA ⟨pr, true, be, en, sq, at2, 0, 0, 0⟩) _ rfl (RA3.setRow _) Tryz.underlying42 rfl (HS.out _)) rfl ?_
      exact ⟨by rw [HP.out]; rfl, vgrown_setRow G3 _ _ (.inr HR2.out)⟩
structure GB (w w' : World) (S : Nat → Prop) : Prop where
 os : w'.os = w.os
 tape : w'.tape = w.tape
 output : w'.output = w.output
 size : w.heap.size ≤ w'.heap.size
 block : ∀ i, i < w.heap.size → ¬ S i → w'.heap[i]? = w.heap[i]?
theorem GB.of {w w' : World} {row : Option Nat} {S : Nat → Prop} (h : w.grownBy w' row) (hs : ∀ x, row = some x → S x) : GB w w' S :=
 ⟨h.os, h.tape, h.output, h.size, fun i hi hn => h.block i hi (fun e => hn (hs i e.symm))⟩
theorem GB.non {w w' : World} {S : Nat → Prop} (h : w.grownBy w' none) : GB w w' S := GB.of h (fun x hx => by cases hx)
theorem GB.refl (w : World) (S : Nat → Prop) : GB w w S := ⟨rfl, rfl, rfl, Nat.le_refl _, fun _ _ _ => rfl⟩
theorem GB.trans {w w1 w2 : World} {S S' : Nat → Prop} (h : GB w w1 S) (k : GB w1 w2 S') (hs : ∀ x, x < w.heap.size → S' x → S x) : GB w w2 S :=
 ⟨k.os.trans h.os, k.tape.trans h.tape, k.output.trans h.output, Nat.le_trans h.size k.size, fun i hi hn => (k.block i (Nat.lt_of_lt_of_le hi h.size) (fun e => hn (hs i hi e))).trans (h.block i hi hn)⟩
theorem GB.mono {w w' : World} {S S' : Nat → Prop} (h : GB w w' S) (hs : ∀ x, S x → S' x) : GB w w' S' := ⟨h.os, h.tape, h.output, h.size, fun i hi hn => h.block i hi (fun e => hn (hs i e))⟩
theorem GB.grown {w w' : World} {S : Nat → Prop} (h : GB w w' S) (hs : ∀ x, x < w.heap.size → ¬ S x) : w.grownBy w' none := ⟨h.os, h.tape, h.output, h.size, fun i hi _ => h.block i hi (hs i hi)⟩
theorem GB.one {w w' : World} {S : Nat → Prop} {g : Nat} (h : GB w w' S) (hs : ∀ x, x < w.heap.size → S x → x = g) : w.grownBy w' (some g) := ⟨h.os, h.tape, h.output, h.size, fun i hi hn => h.block i hi (fun e => hn (congrArg some (hs i hi e)))⟩
theorem GB.vat {w w' : World} {S : Nat → Prop} {g t : Nat} {cs : Array Value} (h : GB w w' S) (A : VAt w g t cs) (hg : ¬ S g) : VAt w' g t cs := by
 have := h.block g A.lt hg
 unfold VAt at *
 rw [this, A]
theorem GB.cell {w w' : World} {S : Nat → Prop} {ad : Addr} {v : Value} (h : GB w w' S) (hc : w.cell? ad = some v) (ha : ¬ S ad.block) (hlt : ad.block < w.heap.size) : w'.cell? ad = some v := by
 have := h.block ad.block hlt ha
 unfold World.cell? at *
 rw [this]
 exact hc
theorem GB.cells {w w' : World} {S : Nat → Prop} {ao : Option Addr} {xs : List UInt8} (h : GB w w' S) (hc : Cells w ao xs) (ha : ∀ ad, ao = some ad → xs ≠ [] → ¬ S ad.block) : Cells w' ao xs := by
 have hu := hc.under
 refine hc.same fun b off i hb hi => ?_
 have hne : xs ≠ [] := by
  intro e
  rw [e] at hi
  simp at hi
 have h1 := ha _ hb hne
 have h2 := hu _ hb hne
 have := h.block b h2 h1
 unfold World.cell?
 simp only [this]

end Go.Proofs.YtcodofamdhcfiaaGreat
