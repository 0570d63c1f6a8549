/-
  The document's own answers for chapter 15: what is wrong with a graph. Codes of instructions: those that are plain, those that return. No Go text here.
-/
import Derived.Test.YtelgfegkobkhiaaLotP16
import Derived.Test.YtelgfegkobkhiaaLotP8
namespace Go.Proofs.Ytelgfegkobkhiaa
open Go.RowKit
set_option maxRecDepth 100000

set_option maxHeartbeats 2000000 in
theorem grefcode_any (a : Option Addr) (ca : Nat) (xs : List In) (w : World) (ha : CV w a (flat xs)) (hm : xs.length ≤ 9223372036854775806) :
    Calls Try.prog 45 #[.slice a xs.length ca] w fun e w' => e = .returned (.bool (straightB xs)) ∧ w.grownBy w' none := by
  have H : Hid (CV w a (flat xs)) := ha
  clear ha
  go_enter Try.func45, Try.ntmps45
  go_wp2
  go_loopw [3] (fun i wr => ∃ k : Nat, k ≤ xs.length ∧ i = .int .i64 k ∧ Hid (∀ j (hj : j < xs.length), j < k → plainI xs[j] = true) ∧ w.grownBy wr none) (fun i _ => xs.length - (intOf i).toNat)
  case atStart => exact ⟨0, Nat.zero_le _, rfl, (fun j _ h => absurd h (by omega)), World.grownBy.refl _ _⟩
  case round =>
    obtain ⟨k, hk, rfl, HN, G⟩ := hrel
    by_cases hlt : k < xs.length
    · have hl : (k : Int) < (xs.length : Int) := by omega
      obtain ⟨b1, o1, rfl, h1⟩ := (H.out.keptNone G).insns hlt
      obtain ⟨c0, c1, c2, c3⟩ := h1 k hlt
      have HN2 : Hid (plainI xs[k] = true → ∀ j (hj : j < xs.length), j < k + 1 → plainI xs[j] = true) := fun h j hj hl => by
        by_cases e : j = k
        · subst e; exact h
        · exact HN.out j hj (by omega)
      have HY : Hid (plainI xs[k] = false → straightB xs = false) := fun h => by
        cases hs : straightB xs with
        | false => rfl
        | true =>
          have := List.all_eq_true.1 hs xs[k] (List.getElem_mem hlt)
          rw [h] at this
          cases this
      clear h1 HN
      generalize xs[k] = x at *
      go_wp2_with fail
      refine (refclass_any _ _ (code_lt x).1 (code_lt x).2).mono ?_
      rintro e w1 ⟨rfl, rfl⟩
      have hpl : plainI x = (!(classV x.code.toNat == 5 || classV x.code.toNat == 6) && faultV x.code.toNat x.k.toNat == 0) := rfl
      have hng : classV x.code.toNat < 0 → faultV x.code.toNat x.k.toNat ≠ 0 := fun h hf => by
        cases hkn : knownB x.code.toNat with
        | false => rw [faultV, if_pos hkn] at hf; simp at hf
        | true =>
          rw [classV, if_pos hkn] at h
          have := code_lt x
          omega
      by_cases h0 : classV x.code.toNat < 0
      · have HZ : Hid (straightB xs = false) := HY.out (by rw [hpl, beq_eq_false_iff_ne.2 (hng h0), Bool.and_false])
        clear hpl hng HN2 HY
        go_wp2
        go_ret
        exact ⟨ret_bool HZ.out.symm, G⟩
      · cases h5 : (classV x.code.toNat == 5) with
        | true =>
          have HZ : Hid (straightB xs = false) := HY.out (by rw [hpl, h5]; rfl)
          clear hpl hng HN2 HY
          go_wp2
          go_ret
          exact ⟨ret_bool HZ.out.symm, G⟩
        | false =>
          cases h6 : (classV x.code.toNat == 6) with
          | true =>
            have HZ : Hid (straightB xs = false) := HY.out (by rw [hpl, h5, h6]; rfl)
            clear hpl hng HN2 HY
            go_wp2
            go_ret
            exact ⟨ret_bool HZ.out.symm, G⟩
          | false =>
            rw [h5, h6] at hpl
            have HP : Hid (plainI x = (faultV x.code.toNat x.k.toNat == 0)) := by rw [hpl]; rfl
            have CF := fault_any x.code.toNat x.jt.toNat x.jf.toNat x.k.toNat wr
            generalize faultV x.code.toNat x.k.toNat = fv at *
            clear hpl hng
            go_wp2_with fail
            refine CF.mono ?_
            rintro e w2 ⟨rfl, K2⟩
            have G2 := grown_trans G K2
            clear K2 G CF c0 c1 c2 c3
            by_cases hf : fv = 0
            · subst hf
              have HQ := HN2.out (by rw [HP.out]; rfl)
              have HQ' : Hid (∀ j (hj : j < xs.length), j < k + 1 → plainI xs[j] = true) := HQ
              clear HN2 HY HP HQ
              go_wp2
              go_roundw
              case rel => exact ⟨k + 1, by omega, by go_num, HQ', G2⟩
              case measure => simp [intOf]; omega
            · have hf' : (fv != 0) = true := by rw [bne_iff_ne]; exact hf
              have HZ : Hid (straightB xs = false) := HY.out (by rw [HP.out, beq_eq_false_iff_ne]; exact hf)
              clear HN2 HY HP
              go_wp2
              go_ret
              exact ⟨ret_bool HZ.out.symm, G2⟩
    · have hl : ¬ (k : Int) < (xs.length : Int) := by omega
      have HZ : Hid (straightB xs = true) := by
        show _ = _
        rw [straightB, List.all_eq_true]
        intro x hx
        obtain ⟨j, hj, rfl⟩ := List.getElem_of_mem hx
        exact HN.out j hj (by omega)
      go_wp2
      go_ret
      exact ⟨ret_bool HZ.out.symm, G⟩

theorem box8_alloc0 (w : World) (b : Bk) (a : Option Addr) (ca : Nat) : Box8 w w.heap.size b.en b.last.code.toNat b.last.jt.toNat b.last.jf.toNat b.last.k.toNat b.yes b.no (w.alloc (.cells (bkA b a ca) 47)) := by
  have h := cv_lit w 47 (bkA b a ca).toList
  exact ⟨h.2 _ rfl 1 (by simp), h.2 _ rfl 2 (by simp), h.2 _ rfl 3 (by simp), h.2 _ rfl 4 (by simp), h.2 _ rfl 5 (by simp), h.2 _ rfl 6 (by simp), h.2 _ rfl 7 (by simp), World.grownBy_alloc _ _ _⟩

theorem class6_ret (c : Int) : (classV c == 6) = retB c := by
  cases hk : knownB c with
  | false =>
    have h1 : classV c = -1 := by rw [classV, if_neg (by rw [hk]; simp)]
    rw [h1]
    cases hr : retB c with
    | false => rfl
    | true =>
      exfalso
      simp only [retB, Bool.or_eq_true, beq_iff_eq] at hr
      rcases hr with rfl | rfl
      · exact absurd hk (by decide)
      · exact absurd hk (by decide)
  | true =>
    have := known_all (fun c => (classV c == 6) == retB c) (by decide +kernel) hk
    exact beq_iff_eq.1 this
theorem usesJ_jump (c : Int) : usesJ c = jumpB c := by
  unfold usesJ knownB
  cases jumpB c <;> simp
/-- Is a Last without what it does not look at? -/
theorem bare_eq (x : In) : inEq x (bareV x) = (x.jt == 0 && x.jf == 0 && (usesK x.code.toNat || x.k == 0)) := by
  unfold inEq bareV
  cases hu : usesK x.code.toNat with
  | true => simp
  | false => simp

attribute [local go_sem high] insn_eql

set_option maxHeartbeats 4000000 in
theorem refend_any (b : Bk) (a : Option Addr) (ca : Nat) (w : World) : Calls Try.prog 46 #[bkV b a ca] w fun e w' => e = .returned (.bool (gendsB b)) ∧ w.grownBy w' none := by
  have B0 := box8_alloc0 w b a ca
  obtain ⟨code, en, x, yes, no⟩ := b
  have hbq := bare_eq x
  have hz : inEq x in0 = true → inEq x (bareV x) = true := fun h => by
    simp only [inEq, in0, Bool.and_eq_true, beq_iff_eq] at h
    obtain ⟨⟨⟨h1, h2⟩, h3⟩, h4⟩ := h
    rw [hbq, h1, h2, h3, h4]
    decide
  obtain ⟨R, hR⟩ : ∃ R, gendsB ⟨code, en, x, yes, no⟩ = R := ⟨_, rfl⟩
  rw [hR]
  have HR : Hid (R = if en = 1 then (retB x.code.toNat && inEq x (bareV x)) && (yes == 0 && no == 0) else if en = 2 then inEq x in0 && no == 0 else if en = 3 then jumpB x.code.toNat && inEq x (bareV x) else false) := by
    show _ = _
    rw [← hR, gendsB, ← class6_ret, ← usesJ_jump]
  have e2 := eqI_in x in0
  have j0 : ((x.jt.toNat : Int) != 0) = !(x.jt == 0) := by
    rw [Bool.eq_iff_iff]
    simp only [bne_iff_ne, Bool.not_eq_true', beq_eq_false_iff_ne]
    exact ⟨fun h e => h (by rw [e]; rfl), fun h e => h (UInt8.toNat_inj.1 (by simpa using e))⟩
  have f0 : ((x.jf.toNat : Int) != 0) = !(x.jf == 0) := by
    rw [Bool.eq_iff_iff]
    simp only [bne_iff_ne, Bool.not_eq_true', beq_eq_false_iff_ne]
    exact ⟨fun h e => h (by rw [e]; rfl), fun h e => h (UInt8.toNat_inj.1 (by simpa using e))⟩
  have k0 : ((x.k.toNat : Int) != 0) = !(x.k == 0) := by
    rw [Bool.eq_iff_iff]
    simp only [bne_iff_ne, Bool.not_eq_true', beq_eq_false_iff_ne]
    exact ⟨fun h e => h (by rw [e]; rfl), fun h e => h (UInt32.toNat_inj.1 (by simpa using e))⟩
  have CU := fun W => refuses_any (x.code.toNat : Int) W
  have CR := fun W => retB_any (x.code.toNat : Int) W
  have CJ := fun W => jump_any (x.code.toNat : Int) W
  rw [show ((in0.code.toNat : Nat) : Int) = 0 from rfl, show ((in0.jt.toNat : Nat) : Int) = 0 from rfl, show ((in0.jf.toNat : Nat) : Int) = 0 from rfl, show ((in0.k.toNat : Nat) : Int) = 0 from rfl] at e2
  simp only [bkV, bkA] at *
  generalize inEq x (bareV x) = q at *
  generalize inEq x in0 = q0 at *
  generalize (x.jt == 0) = bj at *
  generalize (x.jf == 0) = bf at *
  generalize (x.k == 0) = bk at *
  generalize retB x.code.toNat = rb at *
  generalize jumpB x.code.toNat = jb at *
  generalize usesK x.code.toNat = uk at *
  generalize usesJ x.code.toNat = uj at *
  generalize usesF x.code.toNat = uf at *
  generalize x.code.toNat = c at *
  generalize x.jt.toNat = t at *
  generalize x.jf.toNat = f at *
  generalize x.k.toNat = k at *
  clear hR
  have HZ : Hid (q0 = true → q = true) := hz
  have HQ : Hid (q = (bj && bf && (uk || bk))) := hbq
  clear hz hbq
  go_enter Try.func46, Try.ntmps46
  go_upto_region 1 with fail
  generalize w.alloc (.cells #[.slice a code.length ca, .int .i64 en, .int .u16 (c : Int), .int .u8 (t : Int), .int .u8 (f : Int), .int .u32 (k : Int), .int .i64 yes, .int .i64 no] 47) = w1 at *
  generalize w.heap.size = A at *
  obtain ⟨a1, a2, a3, a4, a5, a6, a7, G⟩ := B0
  go_wp2_with fail
  refine (CU _).mono ?_
  rintro e w2 ⟨rfl, rfl⟩
  cases bj with
  | false =>
    rw [Bool.not_false] at j0
    have HF : Hid (R = false) := by
      show _ = _
      have hq : q = false := by rw [HQ.out]; simp
      have hq0 : q0 = false := by
        cases hq0 : q0 with
        | false => rfl
        | true => rw [HZ.out hq0] at hq; cases hq
      rw [HR.out, hq, hq0]
      simp
    go_wp2
    go_ret
    exact ⟨ret_bool HF.out.symm, G⟩
  | true =>
    rw [Bool.not_true] at j0
    cases bf with
    | false =>
      rw [Bool.not_false] at f0
      have HF : Hid (R = false) := by
        show _ = _
        have hq : q = false := by rw [HQ.out]; simp
        have hq0 : q0 = false := by
          cases hq0 : q0 with
          | false => rfl
          | true => rw [HZ.out hq0] at hq; cases hq
        rw [HR.out, hq, hq0]
        simp
      go_wp2
      go_ret
      exact ⟨ret_bool HF.out.symm, G⟩
    | true =>
      rw [Bool.not_true] at f0
      cases uk with
      | true =>
        have hq : q = true := by rw [HQ.out]; rfl
        subst hq
        clear HQ HZ
        by_cases h1 : en = 1
        · subst h1
          have HR1 : Hid (R = ((rb && true) && (yes == 0 && no == 0))) := HR.out.trans (if_pos rfl)
          clear HR
          go_wp2_with fail
          refine (CR _).mono ?_
          rintro e w3 ⟨rfl, rfl⟩
          cases rb with
          | false =>
            go_wp2
            go_ret
            exact ⟨ret_bool (by rw [HR1.out]; rfl), G⟩
          | true =>
            cases hy : (yes == 0) with
            | false =>
              go_wp2
              go_ret
              exact ⟨ret_bool (by rw [HR1.out, hy]; rfl), G⟩
            | true =>
              go_wp2
              go_ret
              exact ⟨ret_bool (by rw [HR1.out, hy]; rfl), G⟩
        · have h1f : (en == 1) = false := by rw [beq_eq_false_iff_ne]; exact h1
          by_cases h2 : en = 2
          · subst h2
            have HR1 : Hid (R = (q0 && no == 0)) := (HR.out.trans (if_neg h1)).trans (if_pos rfl)
            clear HR
            cases q0 with
            | false =>
              go_wp2
              go_ret
              exact ⟨ret_bool (by rw [HR1.out]; rfl), G⟩
            | true =>
              go_wp2
              go_ret
              exact ⟨ret_bool (by rw [HR1.out]; rfl), G⟩
          · have h2f : (en == 2) = false := by rw [beq_eq_false_iff_ne]; exact h2
            by_cases h3 : en = 3
            · subst h3
              have HR1 : Hid (R = (jb && true)) := ((HR.out.trans (if_neg h1)).trans (if_neg h2)).trans (if_pos rfl)
              clear HR
              go_wp2_with fail
              refine (CJ _).mono ?_
              rintro e w3 ⟨rfl, rfl⟩
              go_wp2
              go_ret
              exact ⟨ret_bool (by rw [HR1.out, Bool.and_true]), G⟩
            · have h3f : (en == 3) = false := by rw [beq_eq_false_iff_ne]; exact h3
              have HR1 : Hid (R = false) := ((HR.out.trans (if_neg h1)).trans (if_neg h2)).trans (if_neg h3)
              clear HR
              go_wp2
              go_ret
              exact ⟨ret_bool (by rw [HR1.out]), G⟩
      | false =>
        cases bk with
        | false =>
          rw [Bool.not_false] at k0
          have HF : Hid (R = false) := by
            show _ = _
            have hq : q = false := by rw [HQ.out]; simp
            have hq0 : q0 = false := by
              cases hq0 : q0 with
              | false => rfl
              | true => rw [HZ.out hq0] at hq; cases hq
            rw [HR.out, hq, hq0]
            simp
          go_wp2
          go_ret
          exact ⟨ret_bool HF.out.symm, G⟩
        | true =>
          rw [Bool.not_true] at k0
          have hq : q = true := by rw [HQ.out]; rfl
          subst hq
          clear HQ HZ
          by_cases h1 : en = 1
          · subst h1
            have HR1 : Hid (R = ((rb && true) && (yes == 0 && no == 0))) := HR.out.trans (if_pos rfl)
            clear HR
            go_wp2_with fail
            refine (CR _).mono ?_
            rintro e w3 ⟨rfl, rfl⟩
            cases rb with
            | false =>
              go_wp2
              go_ret
              exact ⟨ret_bool (by rw [HR1.out]; rfl), G⟩
            | true =>
              cases hy : (yes == 0) with
              | false =>
                go_wp2
                go_ret
                exact ⟨ret_bool (by rw [HR1.out, hy]; rfl), G⟩
              | true =>
                go_wp2
                go_ret
                exact ⟨ret_bool (by rw [HR1.out, hy]; rfl), G⟩
          · have h1f : (en == 1) = false := by rw [beq_eq_false_iff_ne]; exact h1
            by_cases h2 : en = 2
            · subst h2
              have HR1 : Hid (R = (q0 && no == 0)) := (HR.out.trans (if_neg h1)).trans (if_pos rfl)
              clear HR
              cases q0 with
              | false =>
                go_wp2
                go_ret
                exact ⟨ret_bool (by rw [HR1.out]; rfl), G⟩
              | true =>
                go_wp2
                go_ret
                exact ⟨ret_bool (by rw [HR1.out]; rfl), G⟩
            · have h2f : (en == 2) = false := by rw [beq_eq_false_iff_ne]; exact h2
              by_cases h3 : en = 3
              · subst h3
                have HR1 : Hid (R = (jb && true)) := ((HR.out.trans (if_neg h1)).trans (if_neg h2)).trans (if_pos rfl)
                clear HR
                go_wp2_with fail
                refine (CJ _).mono ?_
                rintro e w3 ⟨rfl, rfl⟩
                go_wp2
                go_ret
                exact ⟨ret_bool (by rw [HR1.out, Bool.and_true]), G⟩
              · have h3f : (en == 3) = false := by rw [beq_eq_false_iff_ne]; exact h3
                have HR1 : Hid (R = false) := ((HR.out.trans (if_neg h1)).trans (if_neg h2)).trans (if_neg h3)
                clear HR
                go_wp2
                go_ret
                exact ⟨ret_bool (by rw [HR1.out]), G⟩

end Go.Proofs.Ytelgfegkobkhiaa

namespace Go.Proofs.Ytelgfegkobkhiaa
open Go.RowKit
set_option maxRecDepth 100000

theorem plain_codes {x : In} (h : leavesB x = false) : ((x.code.toNat : Int) == 6) = false ∧ ((x.code.toNat : Int) == 22) = false ∧ ((x.code.toNat : Int) == 5) = false ∧ jumpB (x.code.toNat : Int) = false := by
  have h0 : (classV x.code.toNat == 5) = false ∧ (classV x.code.toNat == 6) = false := by
    rw [leavesB, Bool.or_eq_false_iff] at h
    exact h
  refine ⟨?_, ?_, ?_, ?_⟩
  · cases e : ((x.code.toNat : Int) == 6) with
    | false => rfl
    | true => rw [beq_iff_eq.1 e] at h0; exact absurd h0.2 (by decide)
  · cases e : ((x.code.toNat : Int) == 22) with
    | false => rfl
    | true => rw [beq_iff_eq.1 e] at h0; exact absurd h0.2 (by decide)
  · cases e : ((x.code.toNat : Int) == 5) with
    | false => rfl
    | true => rw [beq_iff_eq.1 e] at h0; exact absurd h0.1 (by decide)
  · cases e : jumpB (x.code.toNat : Int) with
    | false => rfl
    | true =>
      simp only [jumpB, Bool.or_eq_true, beq_iff_eq] at e
      rcases e with ((((((e | e) | e) | e) | e) | e) | e) | e <;> (rw [e] at h0; exact absurd h0.1 (by decide))

theorem leaves5 {x : In} (h : leavesB x = true) (h6 : (classV x.code.toNat == 6) = false) : classV x.code.toNat = 5 := by
  rw [leavesB, h6, Bool.or_false] at h
  simpa using h

theorem ret_codes {x : In} (h6 : (classV x.code.toNat == 6) = true) : ((x.code.toNat : Int) == 6) = true ∨ (((x.code.toNat : Int) == 6) = false ∧ ((x.code.toNat : Int) == 22) = true) := by
  rw [class6_ret] at h6
  simp only [retB, Bool.or_eq_true] at h6
  rcases h6 with h | h
  · exact .inl h
  · cases e : ((x.code.toNat : Int) == 6) with
    | true => exact .inl rfl
    | false => exact .inr ⟨rfl, h⟩

theorem not_ret {x : In} (h6 : (classV x.code.toNat == 6) = false) : ((x.code.toNat : Int) == 6) = false ∧ ((x.code.toNat : Int) == 22) = false := by
  rw [class6_ret] at h6
  simp only [retB, Bool.or_eq_false_iff] at h6
  exact h6

end Go.Proofs.Ytelgfegkobkhiaa
