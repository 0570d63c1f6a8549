/-
  The document's own Check of a graph.
-/
import Derived.Test.YtpoleldfoahpoaaGreatGrT
namespace Go.Proofs.YtpoleldfoahpoaaGreat
open Go.RowKit
set_option maxRecDepth 100000

set_option maxHeartbeats 2000000 in
theorem refgoals_any (b : Bk) (a : Option Addr) (ca i n : Nat) (w : World) (he : b.en = 1 ∨ b.en = 2 ∨ b.en = 3) : Calls Tryz.prog 37 #[bkV b a ca, .int .i64 (i : Int), .int .i64 (n : Int)] w fun e w' => e = .returned (.bool (leadsB b i n)) ∧ w.grownBy w' none := by
  have B0 := box8_alloc0 w b a ca
  obtain ⟨code, en, x, yes, no⟩ := b
  obtain ⟨R, hR⟩ : ∃ R, leadsB ⟨code, en, x, yes, no⟩ i n = R := ⟨_, rfl⟩
  rw [hR]
  have HR : Hid (R = if en = 2 then aheadB i n yes else if en = 3 then aheadB i n yes && aheadB i n no else true) := hR.symm
  clear hR
  simp only [bkV, bkA] at *
  go_enter Tryz.func37, Tryz.ntmps37
  go_upto_region 1 with fail
  generalize w.alloc (.cells #[.slice a code.length ca, .int .i64 en, .int .u16 (x.code.toNat : Int), .int .u8 (x.jt.toNat : Int), .int .u8 (x.jf.toNat : Int), .int .u32 (x.k.toNat : Int), .int .i64 yes, .int .i64 no] 56) = w1 at *
  generalize w.heap.size = A at *
  obtain ⟨a1, -, -, -, -, a6, a7, G⟩ := B0
  rcases he with rfl | rfl | rfl
  · have HR1 : Hid (R = true) := HR.out
    clear HR
    go_wp2
    go_ret
    exact ⟨ret_bool HR1.out.symm, G⟩
  · have HR1 : Hid (R = aheadB i n yes) := HR.out
    clear HR
    by_cases h1 : yes ≤ (i : Int)
    · have HR2 : Hid (R = false) := by
        show _ = _
        rw [HR1.out, aheadB, decide_eq_false (by omega), Bool.false_and]
      go_wp2
      go_ret
      exact ⟨ret_bool HR2.out.symm, G⟩
    · by_cases h2 : (n : Int) ≤ yes
      · have HR2 : Hid (R = false) := by
          show _ = _
          rw [HR1.out, aheadB, decide_eq_false (p := yes < (n : Int)) (by omega), Bool.and_false]
        go_wp2
        go_ret
        exact ⟨ret_bool HR2.out.symm, G⟩
      · have HR2 : Hid (R = true) := by
          show _ = _
          rw [HR1.out, aheadB, decide_eq_true (by omega), decide_eq_true (by omega)]
          rfl
        go_wp2
        go_ret
        exact ⟨ret_bool HR2.out.symm, G⟩
  · have HR1 : Hid (R = (aheadB i n yes && aheadB i n no)) := HR.out
    clear HR
    by_cases h1 : yes ≤ (i : Int)
    · have HR2 : Hid (R = false) := by
        show _ = _
        rw [HR1.out, aheadB, decide_eq_false (by omega), Bool.false_and, Bool.false_and]
      go_wp2
      go_ret
      exact ⟨ret_bool HR2.out.symm, G⟩
    · by_cases h2 : (n : Int) ≤ yes
      · have HR2 : Hid (R = false) := by
          show _ = _
          rw [HR1.out, aheadB, decide_eq_false (p := yes < (n : Int)) (by omega), Bool.and_false, Bool.false_and]
        go_wp2
        go_ret
        exact ⟨ret_bool HR2.out.symm, G⟩
      · have HR3 : Hid (R = aheadB i n no) := by
          show _ = _
          rw [HR1.out]
          rw [show aheadB i n yes = true by rw [aheadB, decide_eq_true (by omega), decide_eq_true (by omega)]; rfl, Bool.true_and]
        clear HR1
        by_cases h3 : (i : Int) < no
        · by_cases h4 : no < (n : Int)
          · have HR2 : Hid (R = true) := by
              show _ = _
              rw [HR3.out, aheadB, decide_eq_true h3, decide_eq_true h4]
              rfl
            go_wp2
            go_ret
            exact ⟨ret_bool HR2.out.symm, G⟩
          · have HR2 : Hid (R = false) := by
              show _ = _
              rw [HR3.out, aheadB, decide_eq_false h4, Bool.and_false]
            go_wp2
            go_ret
            exact ⟨ret_bool HR2.out.symm, G⟩
        · have HR2 : Hid (R = false) := by
            show _ = _
            rw [HR3.out, aheadB, decide_eq_false h3, Bool.false_and]
          go_wp2
          go_ret
          exact ⟨ret_bool HR2.out.symm, G⟩

set_option maxHeartbeats 4000000 in
theorem refgcheck_any (a : Option Addr) (ca : Nat) (xs : List Bv) (w : World) (ha : GC w a xs) (hlen : ∀ x ∈ xs, x.b.code.length ≤ 4611686018427387904) :
    Calls Tryz.prog 7 #[.slice a xs.length ca] w fun e w' => e = .returned (.tuple #[.int .i64 ((checkG (gOf xs)).1 : Int), .int .i64 (checkG (gOf xs)).2]) ∧ w.grownBy w' none := by
  have H : Hid (GC w a xs) := ha
  clear ha
  by_cases h0 : xs.length = 0
  · have e : checkG (gOf xs) = (0, 150) := by rw [checkG, if_pos (by rw [gOf_len]; exact h0)]
    rw [e]
    have h0' : ((xs.length : Int) == 0) = true := by rw [h0]; rfl
    have H0 : Hid (xs.length = 0) := h0
    clear h0
    go_enter Tryz.func7, Tryz.ntmps7
    go_wp2
    go_ret2
    exact ⟨rfl, World.grownBy.refl _ _⟩
  · have h0' : ((xs.length : Int) == 0) = false := by rw [beq_eq_false_iff_ne]; omega
    by_cases h4 : 4096 < xs.length
    · have e : checkG (gOf xs) = (4096, 151) := by rw [checkG, if_neg (by rw [gOf_len]; exact h0), if_pos (by rw [gOf_len]; exact h4)]
      rw [e]
      have h4' : (4096 : Int) < (xs.length : Int) := by omega
      go_enter Tryz.func7, Tryz.ntmps7
      go_wp2
      go_ret2
      exact ⟨rfl, World.grownBy.refl _ _⟩
    · have e : checkG (gOf xs) = firstG xs.length 0 4096 (gOf xs) := by rw [checkG, if_neg (by rw [gOf_len]; exact h0), if_neg (by rw [gOf_len]; exact h4), gOf_len]
      obtain ⟨p, q, hpq⟩ : ∃ p q, checkG (gOf xs) = (p, q) := ⟨_, _, rfl⟩
      have HE : Hid (firstG xs.length 0 4096 ((gOf xs).drop 0) = (p, q)) := by rw [← hpq, e, List.drop_zero]; rfl
      rw [hpq]
      have h4' : ¬ (4096 : Int) < (xs.length : Int) := by omega
      clear e hpq
      go_enter Tryz.func7, Tryz.ntmps7
      go_wp2
      go_loopw [4, 5] (fun r i wr => ∃ (k : Nat) (rm : Int), k ≤ xs.length ∧ i = .int .i64 k ∧ r = .int .i64 rm ∧ Hid (firstG xs.length k rm ((gOf xs).drop k) = (p, q)) ∧ 0 ≤ rm ∧ rm ≤ 4096 ∧ w.grownBy wr none) (fun _ i _ => xs.length - (intOf i).toNat)
      case atStart => exact ⟨0, 4096, Nat.zero_le _, rfl, rfl, HE, by omega, by omega, World.grownBy.refl _ _⟩
      case round =>
        clear HE
        obtain ⟨k, rm, hk, rfl, rfl, HN, hr0, hr1, G⟩ := hrel
        by_cases hlt : k < xs.length
        · have hl : (k : Int) < (xs.length : Int) := by omega
          obtain ⟨b1, o1, rfl, h1⟩ := ((H.out.keptNone G).1).blocks hlt
          have h1 := h1 k hlt
          have hok := (H.out.keptNone G).2 xs[k] (List.getElem_mem hlt)
          have hle := hlen xs[k] (List.getElem_mem hlt)
          have HN2 := HN.out
          rw [firstG_drop (by rw [gOf_len]; exact hlt)] at HN2
          rw [show (gOf xs)[k]'(by rw [gOf_len]; exact hlt) = xs[k].b by simp [gOf]] at HN2
          generalize xs[k] = x at *
          obtain ⟨b, xa, xc⟩ := x
          simp only at HN2 hle
          have CC := fun W (G' : wr.grownBy W none) => refcode_any xa xc b.code W (hok.1.keptNone G') (by omega)
          have CE := fun W => refend_any b xa xc W
          have CL := fun W (he : endsB b = true) => refgoals_any b xa xc k xs.length W (ends_cases he)
          have HN3 : Hid ((if faultB b k xs.length (rm - b.code.length) = 0 then firstG xs.length (k + 1) (rm - b.code.length) ((gOf xs).drop (k + 1)) else (k, faultB b k xs.length (rm - b.code.length))) = (p, q)) := HN2
          have HF : Hid (faultB b k xs.length (rm - b.code.length) = if rm - (b.code.length : Int) < 0 then 151 else if straightB b.code = false then 152 else if endsB b = false then 153 else if leadsB b k xs.length = false then 154 else 0) := rfl
          clear HN2 HN hok
          have c0 := h1 0 _ rfl
          have c1 := h1 1 _ rfl
          have c2 := h1 2 _ rfl
          have c3 := h1 3 _ rfl
          have c4 := h1 4 _ rfl
          have c5 := h1 5 _ rfl
          have c6 := h1 6 _ rfl
          have c7 := h1 7 _ rfl
          clear h1
          rw [Nat.add_zero] at c0
          obtain ⟨code, en, ⟨ic, it, jf, ik⟩, yes, no⟩ := b
          simp only at c0 c1 c2 c3 c4 c5 c6 c7 hle
          simp only [bkV, bkA] at CE CL HN3 HF CC
          generalize faultB ⟨code, en, ⟨ic, it, jf, ik⟩, yes, no⟩ k xs.length (rm - (code.length : Int)) = fb at *
          generalize straightB code = s at *
          generalize endsB ⟨code, en, ⟨ic, it, jf, ik⟩, yes, no⟩ = en' at *
          generalize leadsB ⟨code, en, ⟨ic, it, jf, ik⟩, yes, no⟩ k xs.length = le at *
          have hsub : IntKind.i64.wrap (rm - (code.length : Int)) = rm - (code.length : Int) := by rw [IntKind.wrap_i64]; omega
          have HBAD : Hid (∀ v, fb = v → v ≠ 0 → (k, v) = (p, q)) := fun v h hv => by
            have := HN3.out
            rw [if_neg (by rw [h]; exact hv), h] at this
            exact this
          by_cases hgt : rm < (code.length : Int)
          · have HP : Hid ((k, (151 : Int)) = (p, q)) := HBAD.out 151 (HF.out.trans (if_pos (by omega))) (by decide)
            clear CC CE CL HN3 HF HBAD
            go_wp2
            go_ret2
            obtain ⟨rfl, rfl⟩ := Prod.mk.inj HP.out
            exact ⟨rfl, G⟩
          · have HF1 : Hid (fb = if s = false then 152 else if en' = false then 153 else if le = false then 154 else 0) := HF.out.trans (if_neg (by omega))
            clear HF
            go_wp2_with fail
            refine (CC _ (World.grownBy.refl _ _)).mono ?_
            rintro e w2 ⟨rfl, K2⟩
            have G2 := grown_trans G K2
            cases s with
            | false =>
              have HP : Hid ((k, (152 : Int)) = (p, q)) := HBAD.out 152 HF1.out (by decide)
              clear CC CE CL HN3 HF1 HBAD
              go_wp2
              go_ret2
              obtain ⟨rfl, rfl⟩ := Prod.mk.inj HP.out
              exact ⟨rfl, G2⟩
            | true =>
              have HF2 : Hid (fb = if en' = false then 153 else if le = false then 154 else 0) := HF1.out
              have d0 := K2.cell c0 (by simp)
              have d1 := K2.cell c1 (by simp)
              have d2 := K2.cell c2 (by simp)
              have d3 := K2.cell c3 (by simp)
              have d4 := K2.cell c4 (by simp)
              have d5 := K2.cell c5 (by simp)
              have d6 := K2.cell c6 (by simp)
              have d7 := K2.cell c7 (by simp)
              clear c0 c1 c2 c3 c4 c5 c6 c7 K2 G HF1 CC
              go_wp2_with fail
              refine (CE _).mono ?_
              rintro e w3 ⟨rfl, K3⟩
              have G3 := grown_trans G2 K3
              cases en' with
              | false =>
                have HP : Hid ((k, (153 : Int)) = (p, q)) := HBAD.out 153 HF2.out (by decide)
                clear CE CL HN3 HF2 HBAD
                go_wp2
                go_ret2
                obtain ⟨rfl, rfl⟩ := Prod.mk.inj HP.out
                exact ⟨rfl, G3⟩
              | true =>
                have HF3 : Hid (fb = if le = false then 154 else 0) := HF2.out
                have c0 := K3.cell d0 (by simp)
                have c1 := K3.cell d1 (by simp)
                have c2 := K3.cell d2 (by simp)
                have c3 := K3.cell d3 (by simp)
                have c4 := K3.cell d4 (by simp)
                have c5 := K3.cell d5 (by simp)
                have c6 := K3.cell d6 (by simp)
                have c7 := K3.cell d7 (by simp)
                clear d0 d1 d2 d3 d4 d5 d6 d7 K3 G2 HF2 CE
                go_wp2_with fail
                refine (CL _ (by simp)).mono ?_
                rintro e w4 ⟨rfl, K4⟩
                have G4 := grown_trans G3 K4
                clear c0 c1 c2 c3 c4 c5 c6 c7 K4 G3 CL
                cases le with
                | false =>
                  have HP : Hid ((k, (154 : Int)) = (p, q)) := HBAD.out 154 HF3.out (by decide)
                  clear HN3 HF3 HBAD
                  go_wp2
                  go_ret2
                  obtain ⟨rfl, rfl⟩ := Prod.mk.inj HP.out
                  exact ⟨rfl, G4⟩
                | true =>
                  have hfb : fb = 0 := HF3.out
                  have HN4 : Hid (firstG xs.length (k + 1) (rm - (code.length : Int)) ((gOf xs).drop (k + 1)) = (p, q)) := (if_pos hfb).symm.trans HN3.out
                  clear HN3 HF3 HBAD hfb
                  go_wp2
                  go_roundw
                  case rel => exact ⟨k + 1, rm - (code.length : Int), by omega, by go_num, rfl, HN4, by omega, by omega, G4⟩
                  case measure => simp [intOf]; omega
        · have hl : ¬ (k : Int) < (xs.length : Int) := by omega
          have HP : Hid ((0, 0) = (p, q)) := by
            have := HN.out
            rw [List.drop_eq_nil_of_le (by rw [gOf_len]; omega), firstG] at this
            exact this
          go_wp2
          go_ret2
          obtain ⟨rfl, rfl⟩ := Prod.mk.inj HP.out
          exact ⟨rfl, G⟩

end Go.Proofs.YtpoleldfoahpoaaGreat
