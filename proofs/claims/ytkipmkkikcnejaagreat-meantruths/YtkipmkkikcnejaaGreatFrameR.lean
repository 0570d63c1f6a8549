/-
  The document's own Check, Plain, Proto, Head.
-/
import Derived.Test.YtkipmkkikcnejaaGreatLotP6
import Derived.Test.YtkipmkkikcnejaaGreatLotP3
import Derived.Handy
namespace Go.Proofs.YtkipmkkikcnejaaGreat
open Go.RowKit
set_option maxRecDepth 100000

def lkA (l : Lk) : Array Value := #[.bool l.acfc, .bool l.pfc, .int .i64 l.mp]
def exV {α : Type} (d : α) : Except Int α → α
  | .ok a => a
  | .error _ => d
def exE {α : Type} : Except Int α → Int
  | .ok _ => 0
  | .error e => e

theorem Cells.bgc {w : World} {ao : Option Addr} {b : List UInt8} (h : Cells w ao b) {k : Nat} (hk : k < b.length) : ∃ bb off, ao = some ⟨bb, off, none⟩ ∧ ∀ i, i < b.length → w.cell? ⟨bb, off + i, none⟩ = some (.int .u8 (bg b i : Int)) := by
  obtain ⟨bb, off, hao, hc⟩ := h.addr hk
  refine ⟨bb, off, hao, fun i hi => ?_⟩
  rw [hc i hi, bg, List.getD_eq_getElem?_getD, List.getElem?_eq_getElem hi]
  rfl

set_option maxHeartbeats 400000 in
theorem refchk_any (l : Lk) (w : World) : Calls Tryz.prog 46 #[.agg (lkA l)] w fun e w' => e = .returned (.int .i64 (checkF l)) ∧ w.grownBy w' none := by
  obtain ⟨a, p, m⟩ := l
  simp only [lkA]
  by_cases h0 : m < 0
  · have e : checkF ⟨a, p, m⟩ = 70 := by rw [checkF, if_pos (.inl h0)]
    rw [e]
    go_enter Tryz.func46, Tryz.ntmps46
    go_wp2
    go_ret
    exact ⟨rfl, World.grownBy_alloc _ _ _⟩
  · by_cases h2 : 2 < m
    · have e : checkF ⟨a, p, m⟩ = 70 := by rw [checkF, if_pos (.inr h2)]
      rw [e]
      go_enter Tryz.func46, Tryz.ntmps46
      go_wp2
      go_ret
      exact ⟨rfl, World.grownBy_alloc _ _ _⟩
    · have e : checkF ⟨a, p, m⟩ = 0 := by rw [checkF, if_neg (by simp only; omega)]
      rw [e]
      go_enter Tryz.func46, Tryz.ntmps46
      go_wp2
      go_ret
      exact ⟨rfl, World.grownBy_alloc _ _ _⟩

theorem beq_nat {x k : Nat} (h : x = k) : ((x : Int) == (k : Int)) = true := by rw [h]; simp
theorem beq_nat_no {x k : Nat} (h : x ≠ k) : ((x : Int) == (k : Int)) = false := by rw [beq_eq_false_iff_ne]; omega

set_option maxHeartbeats 1000000 in
theorem refplain_any (l : Lk) (a : Option Addr) (ca : Nat) (b : List UInt8) (w : World) (ha : Cells w a b) :
    Calls Tryz.prog 112 #[.agg (lkA l), .slice a b.length ca] w fun e w' => e = .returned (.tuple #[.int .i64 ((exV 0 (plainV l b) : Nat) : Int), .int .i64 (exE (plainV l b))]) ∧ w.grownBy w' none := by
  obtain ⟨ac, p, m⟩ := l
  simp only [lkA]
  have G0 : w.grownBy (w.alloc (.cells #[.bool ac, .bool p, .int .i64 m] 24)) none := World.grownBy_alloc _ _ _
  have rest : ∀ (hno : ¬ (2 ≤ b.length ∧ bg b 0 = 255 ∧ bg b 1 = 3)), plainV ⟨ac, p, m⟩ b = if ac = true then .ok 0 else if b.length < 2 then .error 72 else .error 73 := fun hno => by rw [plainV, if_neg hno]
  by_cases h2 : 2 ≤ b.length
  · have h2' : (2 : Int) ≤ (b.length : Int) := by omega
    obtain ⟨bb, o, rfl, hc⟩ := (ha.keptNone G0).bgc (k := 0) (by omega)
    have c0 : (w.alloc (.cells #[.bool ac, .bool p, .int .i64 m] 24)).cell? ⟨bb, o, none⟩ = some (.int .u8 (bg b 0 : Int)) := hc 0 (by omega)
    have c1 := hc 1 (by omega)
    have l0 : (0 : Int) < (b.length : Int) := by omega
    have l1 : (1 : Int) < (b.length : Int) := by omega
    clear ha hc
    by_cases h255 : bg b 0 = 255
    · have d0 : ((bg b 0 : Int) == 255) = true := beq_nat h255
      by_cases h3 : bg b 1 = 3
      · have d1 : ((bg b 1 : Int) == 3) = true := beq_nat h3
        have e : plainV ⟨ac, p, m⟩ b = .ok 2 := by rw [plainV, if_pos ⟨h2, h255, h3⟩]
        rw [e]
        clear rest h255 h3 e
        generalize bg b 0 = x at *
        generalize bg b 1 = y at *
        go_enter Tryz.func112, Tryz.ntmps112
        go_wp2
        go_ret2
        exact ⟨rfl, G0⟩
      · have d1 : ((bg b 1 : Int) == 3) = false := beq_nat_no h3
        rw [rest (fun e => h3 e.2.2), if_neg (show ¬ b.length < 2 by omega)]
        clear rest h255 h3
        generalize bg b 0 = x at *
        generalize bg b 1 = y at *
        cases ac
        all_goals
          go_enter Tryz.func112, Tryz.ntmps112
          go_wp2
          go_ret2
          exact ⟨rfl, G0⟩
    · have d0 : ((bg b 0 : Int) == 255) = false := beq_nat_no h255
      rw [rest (fun e => h255 e.2.1), if_neg (show ¬ b.length < 2 by omega)]
      clear rest h255
      generalize bg b 0 = x at *
      cases ac
      all_goals
        go_enter Tryz.func112, Tryz.ntmps112
        go_wp2
        go_ret2
        exact ⟨rfl, G0⟩
  · have h2' : ¬ (2 : Int) ≤ (b.length : Int) := by omega
    rw [rest (fun e => h2 e.1), if_pos (show b.length < 2 by omega)]
    clear rest ha
    cases ac
    all_goals
      go_enter Tryz.func112, Tryz.ntmps112
      go_wp2
      go_ret2
      exact ⟨rfl, G0⟩

set_option maxHeartbeats 1000000 in
theorem refproto_any (l : Lk) (a : Option Addr) (ca : Nat) (b : List UInt8) (p : Nat) (w : World) (ha : Cells w a b) (hp : p ≤ 1099511627776) :
    Calls Tryz.prog 48 #[.agg (lkA l), .slice a b.length ca, .int .i64 (p : Int)] w fun e w' => e = .returned (.tuple #[.int .u32 ((exV (0, 0) (protoV l b p)).1 : Int), .int .i64 ((exV (0, 0) (protoV l b p)).2 : Int), .int .i64 (exE (protoV l b p))]) ∧ w.grownBy w' none := by
  obtain ⟨ac, pf, m⟩ := l
  simp only [lkA]
  have G0 : w.grownBy (w.alloc (.cells #[.bool ac, .bool pf, .int .i64 m] 24)) none := World.grownBy_alloc _ _ _
  by_cases h1 : b.length ≤ p
  · have h1' : (b.length : Int) ≤ (p : Int) := by omega
    have e : protoV ⟨ac, pf, m⟩ b p = .error 72 := by rw [protoV, if_pos h1]
    rw [e]
    clear ha e
    go_enter Tryz.func48, Tryz.ntmps48
    go_wp2
    go_ret3
    exact ⟨rfl, G0⟩
  · have h1' : ¬ (b.length : Int) ≤ (p : Int) := by omega
    have l0 : (p : Int) < (b.length : Int) := by omega
    obtain ⟨bb, o, rfl, hc⟩ := (ha.keptNone G0).bgc (k := p) (by omega)
    have c0 := hc p (by omega)
    have b0 := bg_lt b p
    have b1 := bg_lt b (p + 1)
    have w0 : IntKind.u32.wrap (bg b p : Int) = (bg b p : Int) := by rw [IntKind.wrap_u32]; omega
    by_cases hod : bg b p % 2 = 1
    · have d0 : ((bg b p : Int) % 2 == 1) = true := by
        have : (bg b p : Int) % 2 = 1 := by omega
        rw [this]; rfl
      have e : protoV ⟨ac, pf, m⟩ b p = if pf = true then .ok (bg b p, p + 1) else .error 74 := by rw [protoV, if_neg h1, if_pos hod]
      rw [e]
      clear ha hc e hod h1
      generalize bg b p = x at *
      cases pf
      all_goals
        go_enter Tryz.func48, Tryz.ntmps48
        go_wp2
        go_ret3
        exact ⟨rfl, G0⟩
    · have d0 : ((bg b p : Int) % 2 == 1) = false := by rw [beq_eq_false_iff_ne]; omega
      by_cases h2 : b.length ≤ p + 1
      · have h2' : (b.length : Int) ≤ (p : Int) + 1 := by omega
        have e : protoV ⟨ac, pf, m⟩ b p = .error 72 := by rw [protoV, if_neg h1, if_neg hod, if_pos h2]
        rw [e]
        clear ha hc e hod h1 h2
        generalize bg b p = x at *
        go_enter Tryz.func48, Tryz.ntmps48
        go_wp2
        go_ret3
        exact ⟨rfl, G0⟩
      · have h2' : ¬ (b.length : Int) ≤ (p : Int) + 1 := by omega
        have l1 : (p : Int) + 1 < (b.length : Int) := by omega
        have s1 : ((p : Int) + 1).toNat = p + 1 := by omega
        have c1 := hc (p + 1) (by omega)
        have w1 : IntKind.u32.wrap (bg b (p + 1) : Int) = (bg b (p + 1) : Int) := by rw [IntKind.wrap_u32]; omega
        have e : protoV ⟨ac, pf, m⟩ b p = if bg b (p + 1) % 2 = 0 then .error 74 else .ok (256 * bg b p + bg b (p + 1), p + 2) := by rw [protoV, if_neg h1, if_neg hod, if_neg h2]
        rw [e]
        clear ha hc e hod h1 h2
        by_cases hev : bg b (p + 1) % 2 = 0
        · have d1 : ((bg b (p + 1) : Int) % 2 == 0) = true := by
            have : (bg b (p + 1) : Int) % 2 = 0 := by omega
            rw [this]; rfl
          rw [if_pos hev]
          clear hev
          generalize bg b (p + 1) = y at *
          generalize bg b p = x at *
          go_enter Tryz.func48, Tryz.ntmps48
          go_wp2
          go_ret3
          exact ⟨rfl, G0⟩
        · have d1 : ((bg b (p + 1) : Int) % 2 == 0) = false := by rw [beq_eq_false_iff_ne]; omega
          rw [if_neg hev]
          clear hev
          generalize bg b (p + 1) = y at *
          generalize bg b p = x at *
          go_enter Tryz.func48, Tryz.ntmps48
          go_wp2
          go_ret3
          exact ⟨rfl, G0⟩

/-- The bits of a header. -/
theorem mod_and (h k : Nat) (hh : h < 4294967296) (hk : k ≤ 32) : bits .and .u32 (h : Int) ((2 ^ k - 1 : Nat) : Int) = ((h % 2 ^ k : Nat) : Int) := by
  have hlt : 2 ^ k ≤ 2 ^ 32 := Nat.pow_le_pow_right (by decide) hk
  have := u32_and_nat h (2 ^ k - 1) hh (by omega)
  rw [this, Nat.and_two_pow_sub_one_eq_mod]
theorem clear_top (h k : Nat) (hk : k < 32) (hh : h < 2 ^ (k + 1)) : h &&& (4294967295 - 2 ^ k) = h % 2 ^ k := by
  have hp : 2 ^ k < 2 ^ 32 := Nat.pow_lt_pow_right (by decide) hk
  apply Nat.eq_of_testBit_eq
  intro i
  rw [Nat.testBit_and, show 4294967295 - 2 ^ k = 2 ^ 32 - (2 ^ k + 1) by omega, Nat.testBit_two_pow_sub_succ hp, Nat.testBit_mod_two_pow, Nat.testBit_two_pow]
  by_cases hi : k + 1 ≤ i
  · have : h.testBit i = false := Nat.testBit_lt_two_pow (Nat.lt_of_lt_of_le hh (Nat.pow_le_pow_right (by decide) hi))
    rw [this]; simp
  · by_cases e : i = k
    · subst e; simp
    · have h1 : i < k := by omega
      have h2 : i < 32 := by omega
      have h3 : ¬ k = i := fun e' => e e'.symm
      simp [h1, h2, h3]
theorem notop (h k : Nat) (hk : k < 32) (hh : h < 2 ^ (k + 1)) (h32 : h < 4294967296) : bits .andNot .u32 (h : Int) ((2 ^ k : Nat) : Int) = ((h % 2 ^ k : Nat) : Int) := by
  have hp : 2 ^ k < 2 ^ 32 := Nat.pow_lt_pow_right (by decide) hk
  rw [u32_andNot_nat h (2 ^ k) h32 (by omega), clear_top h k hk hh]
theorem and_two (h k : Nat) : h &&& 2 ^ k = if h.testBit k = true then 2 ^ k else 0 := by
  apply Nat.eq_of_testBit_eq
  intro i
  rw [Nat.testBit_and, Nat.testBit_two_pow]
  by_cases e : k = i
  · subst e
    cases hb : h.testBit k <;> simp
  · cases hb : h.testBit k <;> simp [e]
theorem bit_of (h k : Nat) (hk : k < 32) (h32 : h < 4294967296) : (bits .and .u32 (h : Int) ((2 ^ k : Nat) : Int) != 0) = decide (h / 2 ^ k % 2 = 1) := by
  have hp : 2 ^ k < 2 ^ 32 := Nat.pow_lt_pow_right (by decide) hk
  have hpos : 0 < 2 ^ k := Nat.pos_of_ne_zero (by simp)
  rw [u32_and_nat h (2 ^ k) h32 (by omega), and_two, ← Nat.testBit_eq_decide_div_mod_eq]
  cases h.testBit k with
  | false => rfl
  | true =>
    rw [if_pos rfl, bne_iff_ne]
    omega

/-- Five results. -/
theorem results_tmp5 {fn : Func} {t u v x y : Tmp} (h : fn.results = #[.tmp t, .tmp u, .tmp v, .tmp x, .tmp y]) (tmps : Array Value) (P : Program) (w : World) :
    (results fn tmps).run P w = .ok (.tuple #[tmps.getD t undef, tmps.getD u undef, tmps.getD v undef, tmps.getD x undef, tmps.getD y undef]) w := by
  simp [results, h]

set_option maxHeartbeats 1000000 in
theorem refhead_any (l : Lk) (a : Option Addr) (ca : Nat) (b : List UInt8) (p : Nat) (w : World) (ha : Cells w a b) (hn : b.length ≤ 140737488355328) (hp : p ≤ 1099511627776) :
    Calls Tryz.prog 113 #[.agg (lkA l), .slice a b.length ca, .int .i64 (p : Int)] w fun e w' => e = .returned (.tuple #[.bool (exV (false, false, 0, 0) (headV l b p)).1, .bool (exV (false, false, 0, 0) (headV l b p)).2.1, .int .u32 ((exV (false, false, 0, 0) (headV l b p)).2.2.1 : Int), .int .i64 ((exV (false, false, 0, 0) (headV l b p)).2.2.2 : Int), .int .i64 (exE (headV l b p))]) ∧ w.grownBy w' none := by
  obtain ⟨ac, pf, m⟩ := l
  simp only [lkA]
  have G0 : w.grownBy (w.alloc (.cells #[.bool ac, .bool pf, .int .i64 m] 24)) none := World.grownBy_alloc _ _ _
  have H : Hid (Cells (w.alloc (.cells #[.bool ac, .bool pf, .int .i64 m] 24)) a b) := ha.keptNone G0
  clear ha
  by_cases hm : m = 2
  · have hm' : (m == 2) = true := by rw [hm]; rfl
    have hsz : szV ⟨ac, pf, m⟩ = 4 := by rw [szV, if_pos hm]
    have htp : tpV ⟨ac, pf, m⟩ = 1073741824 := by rw [tpV, if_pos hm]
    have hsp : spV ⟨ac, pf, m⟩ = 16777216 := by rw [spV, if_pos hm]
    have hgv : getV b (p : Int) 4 = if p + 4 ≤ b.length then (numAt b p 4 : Int) else 0 := by
      unfold getV okB
      by_cases hq : p + 4 ≤ b.length
      · rw [if_pos hq, if_pos (decide_eq_true ⟨by omega, by omega, by omega⟩)]
        rfl
      · rw [if_neg hq, if_neg (by simp; omega)]
    have hok : okB b.length (p : Int) 4 = decide (p + 4 ≤ b.length) := by
      unfold okB
      rw [decide_eq_decide]
      omega
    have CG := refget_any a ca b (p : Int) 4 _ H.out hn
    rw [hgv, hok] at CG
    have hlt := numAt_lt b p 4
    rw [show 256 ^ 4 = 4294967296 from rfl] at hlt
    clear hgv hok
    by_cases hs : p + 4 ≤ b.length
    · rw [if_pos hs, decide_eq_true hs] at CG
      generalize hh : numAt b p 4 = h at *
      have e : headV ⟨ac, pf, m⟩ b p = if h % 1073741824 ≠ h % 16777216 then .error 75 else .ok (decide (h / 2147483648 = 1), decide (h / 1073741824 % 2 = 1), h % 16777216, p + 4) := by
        unfold headV
        rw [hsz, htp, hsp, hh, if_neg (by omega)]
      rw [e]
      have f1 : bits BinOp.and IntKind.u32 (h : Int) 16777215 = ((h % 16777216 : Nat) : Int) := mod_and h 24 (by omega) (by decide)
      have f2 : bits BinOp.andNot IntKind.u32 (h : Int) 2147483648 = ((h % 2147483648 : Nat) : Int) := notop h 31 (by decide) (by omega) (by omega)
      have f3 : bits BinOp.andNot IntKind.u32 ((h % 2147483648 : Nat) : Int) 1073741824 = ((h % 1073741824 : Nat) : Int) := by
        have := notop (h % 2147483648) 30 (by decide) (by have : h % 2147483648 < 2147483648 := Nat.mod_lt _ (by decide); exact this) (by omega)
        rw [show h % 2147483648 % 2 ^ 30 = h % 1073741824 from by omega] at this
        exact this
      have f4 : (bits BinOp.and IntKind.u32 (h : Int) 2147483648 != 0) = decide (h / 2147483648 = 1) := by
        refine (bit_of h 31 (by decide) (by omega)).trans ?_
        rw [decide_eq_decide]
        omega
      have f5 : (bits BinOp.and IntKind.u32 (h : Int) 1073741824 != 0) = decide (h / 1073741824 % 2 = 1) := bit_of h 30 (by decide) (by omega)
      obtain ⟨t1, ht1⟩ : ∃ t1 : Nat, h % 2147483648 = t1 := ⟨_, rfl⟩
      obtain ⟨t2, ht2⟩ : ∃ t2 : Nat, h % 1073741824 = t2 := ⟨_, rfl⟩
      obtain ⟨t3, ht3⟩ : ∃ t3 : Nat, h % 16777216 = t3 := ⟨_, rfl⟩
      obtain ⟨B1, hB1⟩ : ∃ B1 : Bool, decide (h / 2147483648 = 1) = B1 := ⟨_, rfl⟩
      obtain ⟨B2, hB2⟩ : ∃ B2 : Bool, decide (h / 1073741824 % 2 = 1) = B2 := ⟨_, rfl⟩
      rw [ht1] at f2 f3
      rw [ht2] at f3 ⊢
      rw [ht3] at f1 ⊢
      rw [hB1] at f4 ⊢
      rw [hB2] at f5 ⊢
      clear ht1 ht2 ht3 hB1 hB2 e hh hm hsz htp hsp
      by_cases hr : t2 = t3
      · have hr' : ((t2 : Int) != (t3 : Int)) = false := by rw [hr]; simp
        rw [if_neg (fun e => e hr)]
        clear hr
        go_enter Tryz.func113, Tryz.ntmps113
        go_wp2_with fail
        refine CG.mono ?_
        rintro e w1 ⟨rfl, rfl⟩
        go_wp2
        refine bodyPost_ret (results_tmp5 rfl _ _ _) rfl ?_
        exact ⟨rfl, G0⟩
      · have hr' : ((t2 : Int) != (t3 : Int)) = true := by rw [bne_iff_ne]; omega
        rw [if_pos hr]
        clear hr
        go_enter Tryz.func113, Tryz.ntmps113
        go_wp2_with fail
        refine CG.mono ?_
        rintro e w1 ⟨rfl, rfl⟩
        go_wp2
        refine bodyPost_ret (results_tmp5 rfl _ _ _) rfl ?_
        exact ⟨rfl, G0⟩
    · rw [if_neg hs, decide_eq_false hs] at CG
      have e : headV ⟨ac, pf, m⟩ b p = .error 72 := by
        unfold headV
        rw [hsz, if_pos (by omega)]
      rw [e]
      clear e hlt hm hsz htp hsp
      go_enter Tryz.func113, Tryz.ntmps113
      go_wp2_with fail
      refine CG.mono ?_
      rintro e w1 ⟨rfl, rfl⟩
      go_wp2
      refine bodyPost_ret (results_tmp5 rfl _ _ _) rfl ?_
      exact ⟨rfl, G0⟩
  · have hm' : (m == 2) = false := by rw [beq_eq_false_iff_ne]; exact hm
    have hsz : szV ⟨ac, pf, m⟩ = 2 := by rw [szV, if_neg hm]
    have htp : tpV ⟨ac, pf, m⟩ = 16384 := by rw [tpV, if_neg hm]
    have hsp : spV ⟨ac, pf, m⟩ = 4096 := by rw [spV, if_neg hm]
    have hgv : getV b (p : Int) 2 = if p + 2 ≤ b.length then (numAt b p 2 : Int) else 0 := by
      unfold getV okB
      by_cases hq : p + 2 ≤ b.length
      · rw [if_pos hq, if_pos (decide_eq_true ⟨by omega, by omega, by omega⟩)]
        rfl
      · rw [if_neg hq, if_neg (by simp; omega)]
    have hok : okB b.length (p : Int) 2 = decide (p + 2 ≤ b.length) := by
      unfold okB
      rw [decide_eq_decide]
      omega
    have CG := refget_any a ca b (p : Int) 2 _ H.out hn
    rw [hgv, hok] at CG
    have hlt := numAt_lt b p 2
    rw [show 256 ^ 2 = 65536 from rfl] at hlt
    clear hgv hok
    by_cases hs : p + 2 ≤ b.length
    · rw [if_pos hs, decide_eq_true hs] at CG
      generalize hh : numAt b p 2 = h at *
      have e : headV ⟨ac, pf, m⟩ b p = if h % 16384 ≠ h % 4096 then .error 75 else .ok (decide (h / 32768 = 1), decide (h / 16384 % 2 = 1), h % 4096, p + 2) := by
        unfold headV
        rw [hsz, htp, hsp, hh, if_neg (by omega)]
      rw [e]
      have f1 : bits BinOp.and IntKind.u32 (h : Int) 4095 = ((h % 4096 : Nat) : Int) := mod_and h 12 (by omega) (by decide)
      have f2 : bits BinOp.andNot IntKind.u32 (h : Int) 32768 = ((h % 32768 : Nat) : Int) := notop h 15 (by decide) (by omega) (by omega)
      have f3 : bits BinOp.andNot IntKind.u32 ((h % 32768 : Nat) : Int) 16384 = ((h % 16384 : Nat) : Int) := by
        have := notop (h % 32768) 14 (by decide) (by have : h % 32768 < 32768 := Nat.mod_lt _ (by decide); exact this) (by omega)
        rw [show h % 32768 % 2 ^ 14 = h % 16384 from by omega] at this
        exact this
      have f4 : (bits BinOp.and IntKind.u32 (h : Int) 32768 != 0) = decide (h / 32768 = 1) := by
        refine (bit_of h 15 (by decide) (by omega)).trans ?_
        rw [decide_eq_decide]
        omega
      have f5 : (bits BinOp.and IntKind.u32 (h : Int) 16384 != 0) = decide (h / 16384 % 2 = 1) := bit_of h 14 (by decide) (by omega)
      obtain ⟨t1, ht1⟩ : ∃ t1 : Nat, h % 32768 = t1 := ⟨_, rfl⟩
      obtain ⟨t2, ht2⟩ : ∃ t2 : Nat, h % 16384 = t2 := ⟨_, rfl⟩
      obtain ⟨t3, ht3⟩ : ∃ t3 : Nat, h % 4096 = t3 := ⟨_, rfl⟩
      obtain ⟨B1, hB1⟩ : ∃ B1 : Bool, decide (h / 32768 = 1) = B1 := ⟨_, rfl⟩
      obtain ⟨B2, hB2⟩ : ∃ B2 : Bool, decide (h / 16384 % 2 = 1) = B2 := ⟨_, rfl⟩
      rw [ht1] at f2 f3
      rw [ht2] at f3 ⊢
      rw [ht3] at f1 ⊢
      rw [hB1] at f4 ⊢
      rw [hB2] at f5 ⊢
      clear ht1 ht2 ht3 hB1 hB2 e hh hm hsz htp hsp
      by_cases hr : t2 = t3
      · have hr' : ((t2 : Int) != (t3 : Int)) = false := by rw [hr]; simp
        rw [if_neg (fun e => e hr)]
        clear hr
        go_enter Tryz.func113, Tryz.ntmps113
        go_wp2_with fail
        refine CG.mono ?_
        rintro e w1 ⟨rfl, rfl⟩
        go_wp2
        refine bodyPost_ret (results_tmp5 rfl _ _ _) rfl ?_
        exact ⟨rfl, G0⟩
      · have hr' : ((t2 : Int) != (t3 : Int)) = true := by rw [bne_iff_ne]; omega
        rw [if_pos hr]
        clear hr
        go_enter Tryz.func113, Tryz.ntmps113
        go_wp2_with fail
        refine CG.mono ?_
        rintro e w1 ⟨rfl, rfl⟩
        go_wp2
        refine bodyPost_ret (results_tmp5 rfl _ _ _) rfl ?_
        exact ⟨rfl, G0⟩
    · rw [if_neg hs, decide_eq_false hs] at CG
      have e : headV ⟨ac, pf, m⟩ b p = .error 72 := by
        unfold headV
        rw [hsz, if_pos (by omega)]
      rw [e]
      clear e hlt hm hsz htp hsp
      go_enter Tryz.func113, Tryz.ntmps113
      go_wp2_with fail
      refine CG.mono ?_
      rintro e w1 ⟨rfl, rfl⟩
      go_wp2
      refine bodyPost_ret (results_tmp5 rfl _ _ _) rfl ?_
      exact ⟨rfl, G0⟩

end Go.Proofs.YtkipmkkikcnejaaGreat
