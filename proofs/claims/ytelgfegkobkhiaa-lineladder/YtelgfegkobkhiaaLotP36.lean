/-
  The document's own Step, of whatever instruction. The document's own Check of a graph.
-/
import Derived.Test.YtelgfegkobkhiaaVmC2
import Derived.Test.YtelgfegkobkhiaaLotP25
namespace Go.Proofs.Ytelgfegkobkhiaa
open Go.RowKit
set_option maxRecDepth 100000

theorem beq_no {c : Int} {n : Int} (h : ¬ c = n) : (c == n) = false := by rw [beq_eq_false_iff_ne]; exact h

set_option maxHeartbeats 1000000 in
theorem refstep_any (b : Option Addr) (cb : Nat) (pk : List UInt8) (g base : Nat) (M : Mc) (c : Int) (t f k : Nat) (w : World) (hm : MAt w 84 base g M) (hk : k ≤ 4294967295) (hC : Cells w b pk) (hp : pk.length ≤ 65536) (hM : M.ok) :
    Calls Try.prog 43 #[.pointer (some ⟨g, 0, none⟩), .agg #[.int .u16 c, .int .u8 t, .int .u8 f, .int .u32 k], .slice b pk.length cb] w fun e w' => StepPost w 84 base g (stepV c k pk M).1 (stepV c k pk M).2 e w' := by
  have hp2 : pk.length ≤ 4294967295 := by omega
  by_cases q0 : c = 0
  · subst q0; have e : stepV 0 k pk M = (⟨k, M.x, M.m⟩, 0) := by simp [stepV]
    rw [e]; exact step_0 b cb pk g base M t f k w hm hk
  by_cases q32 : c = 32
  · subst q32; have e : stepV 32 k pk M = (⟨(readAtV pk k (sizeV 32)).1, M.x, M.m⟩, (readAtV pk k (sizeV 32)).2) := by simp [stepV]
    rw [e]; exact step_32 b cb pk g base M t f k w hm hk hC hp
  by_cases q40 : c = 40
  · subst q40; have e : stepV 40 k pk M = (⟨(readAtV pk k (sizeV 40)).1, M.x, M.m⟩, (readAtV pk k (sizeV 40)).2) := by simp [stepV]
    rw [e]; exact step_40 b cb pk g base M t f k w hm hk hC hp
  by_cases q48 : c = 48
  · subst q48; have e : stepV 48 k pk M = (⟨(readAtV pk k (sizeV 48)).1, M.x, M.m⟩, (readAtV pk k (sizeV 48)).2) := by simp [stepV]
    rw [e]; exact step_48 b cb pk g base M t f k w hm hk hC hp
  by_cases q64 : c = 64
  · subst q64; have e : stepV 64 k pk M = (⟨(readAtV pk (k + M.x) (sizeV 64)).1, M.x, M.m⟩, (readAtV pk (k + M.x) (sizeV 64)).2) := by simp [stepV]
    rw [e]; exact step_64 b cb pk g base M t f k w hm hk hC hp hM
  by_cases q72 : c = 72
  · subst q72; have e : stepV 72 k pk M = (⟨(readAtV pk (k + M.x) (sizeV 72)).1, M.x, M.m⟩, (readAtV pk (k + M.x) (sizeV 72)).2) := by simp [stepV]
    rw [e]; exact step_72 b cb pk g base M t f k w hm hk hC hp hM
  by_cases q80 : c = 80
  · subst q80; have e : stepV 80 k pk M = (⟨(readAtV pk (k + M.x) (sizeV 80)).1, M.x, M.m⟩, (readAtV pk (k + M.x) (sizeV 80)).2) := by simp [stepV]
    rw [e]; exact step_80 b cb pk g base M t f k w hm hk hC hp hM
  by_cases q96 : c = 96
  · subst q96; have e : stepV 96 k pk M = (⟨M.m.getD (k % 16) 0, M.x, M.m⟩, 0) := by simp [stepV]
    rw [e]; exact step_96 b cb pk g base M t f k w hm hk hM
  by_cases q128 : c = 128
  · subst q128; have e : stepV 128 k pk M = (⟨pk.length, M.x, M.m⟩, 0) := by simp [stepV]
    rw [e]; exact step_128 b cb pk g base M t f k w hm hk hp2
  by_cases q1 : c = 1
  · subst q1; have e : stepV 1 k pk M = (⟨M.a, k, M.m⟩, 0) := by simp [stepV]
    rw [e]; exact step_1 b cb pk g base M t f k w hm hk
  by_cases q97 : c = 97
  · subst q97; have e : stepV 97 k pk M = (⟨M.a, M.m.getD (k % 16) 0, M.m⟩, 0) := by simp [stepV]
    rw [e]; exact step_97 b cb pk g base M t f k w hm hk hM
  by_cases q129 : c = 129
  · subst q129; have e : stepV 129 k pk M = (⟨M.a, pk.length, M.m⟩, 0) := by simp [stepV]
    rw [e]; exact step_129 b cb pk g base M t f k w hm hk hp2
  by_cases q177 : c = 177
  · subst q177; have e : stepV 177 k pk M = (⟨M.a, 4 * ((readAtV pk k 1).1 % 16), M.m⟩, (readAtV pk k 1).2) := by simp [stepV]
    rw [e]; exact step_177 b cb pk g base M t f k w hm hk hC hp
  by_cases q2 : c = 2
  · subst q2; have e : stepV 2 k pk M = (⟨M.a, M.x, M.m.set (k % 16) M.a⟩, 0) := by simp [stepV]
    rw [e]; exact step_2 b cb pk g base M t f k w hm hk hM
  by_cases q3 : c = 3
  · subst q3; have e : stepV 3 k pk M = (⟨M.a, M.x, M.m.set (k % 16) M.x⟩, 0) := by simp [stepV]
    rw [e]; exact step_3 b cb pk g base M t f k w hm hk hM
  by_cases q132 : c = 132
  · subst q132; have e : stepV 132 k pk M = (⟨(4294967296 - M.a) % 4294967296, M.x, M.m⟩, 0) := by simp [stepV]
    rw [e]; exact step_132 b cb pk g base M t f k w hm hk hM
  by_cases q7 : c = 7
  · subst q7; have e : stepV 7 k pk M = (⟨M.a, M.a, M.m⟩, 0) := by simp [stepV]
    rw [e]; exact step_7 b cb pk g base M t f k w hm hk
  by_cases q135 : c = 135
  · subst q135; have e : stepV 135 k pk M = (⟨M.x, M.x, M.m⟩, 0) := by simp [stepV]
    rw [e]; exact step_135 b cb pk g base M t f k w hm hk
  have e : stepV c k pk M = (⟨(operV (bits .andNot .u16 c 8) M.a (sideV c k M.x)).1, M.x, M.m⟩, (operV (bits .andNot .u16 c 8) M.a (sideV c k M.x)).2) := by
    simp [stepV, q0, q32, q40, q48, q64, q72, q80, q96, q128, q1, q97, q129, q177, q2, q3, q132, q7, q135]
  rw [e]
  cases hb : byxB c with
  | true => exact step_op_true b cb pk g base M c t f k w hm hk hM hb (beq_no q0) (beq_no q32) (beq_no q40) (beq_no q48) (beq_no q64) (beq_no q72) (beq_no q80) (beq_no q96) (beq_no q128) (beq_no q1) (beq_no q97) (beq_no q129) (beq_no q177) (beq_no q2) (beq_no q3) (beq_no q132) (beq_no q7) (beq_no q135)
  | false => exact step_op_false b cb pk g base M c t f k w hm hk hM hb (beq_no q0) (beq_no q32) (beq_no q40) (beq_no q48) (beq_no q64) (beq_no q72) (beq_no q80) (beq_no q96) (beq_no q128) (beq_no q1) (beq_no q97) (beq_no q129) (beq_no q177) (beq_no q2) (beq_no q3) (beq_no q132) (beq_no q7) (beq_no q135)

end Go.Proofs.Ytelgfegkobkhiaa

namespace Go.Proofs.Ytelgfegkobkhiaa
open Go.RowKit
set_option maxRecDepth 100000

set_option maxHeartbeats 2000000 in
theorem refgoals_any (b : Bk) (a : Option Addr) (ca i n : Nat) (w : World) (he : b.en = 1 ∨ b.en = 2 ∨ b.en = 3) : Calls Try.prog 47 #[bkV b a ca, .int .i64 (i : Int), .int .i64 (n : Int)] w fun e w' => e = .returned (.bool (leadsB b i n)) ∧ w.grownBy w' none := by
  have B0 := box8_alloc0 w b a ca
  obtain ⟨code, en, x, yes, no⟩ := b
  obtain ⟨R, hR⟩ : ∃ R, leadsB ⟨code, en, x, yes, no⟩ i n = R := ⟨_, rfl⟩
  rw [hR]
  have HR : Hid (R = if en = 2 then aheadB i n yes else if en = 3 then aheadB i n yes && aheadB i n no else true) := hR.symm
  clear hR
  simp only [bkV, bkA] at *
  go_enter Try.func47, Try.ntmps47
  go_upto_region 1 with fail
  generalize w.alloc (.cells #[.slice a code.length ca, .int .i64 en, .int .u16 (x.code.toNat : Int), .int .u8 (x.jt.toNat : Int), .int .u8 (x.jf.toNat : Int), .int .u32 (x.k.toNat : Int), .int .i64 yes, .int .i64 no] 47) = w1 at *
  generalize w.heap.size = A at *
  obtain ⟨a1, -, -, -, -, a6, a7, G⟩ := B0
  rcases he with rfl | rfl | rfl
  · have HR1 : Hid (R = true) := HR.out
    clear HR
    go_wp2
    go_ret
    exact ⟨ret_bool HR1.out.symm, G⟩
  · have HR1 : Hid (R = aheadB i n yes) := HR.out
    clear HR
    by_cases h1 : yes ≤ (i : Int)
    · have HR2 : Hid (R = false) := by
        show _ = _
        rw [HR1.out, aheadB, decide_eq_false (by omega), Bool.false_and]
      go_wp2
      go_ret
      exact ⟨ret_bool HR2.out.symm, G⟩
    · by_cases h2 : (n : Int) ≤ yes
      · have HR2 : Hid (R = false) := by
          show _ = _
          rw [HR1.out, aheadB, decide_eq_false (p := yes < (n : Int)) (by omega), Bool.and_false]
        go_wp2
        go_ret
        exact ⟨ret_bool HR2.out.symm, G⟩
      · have HR2 : Hid (R = true) := by
          show _ = _
          rw [HR1.out, aheadB, decide_eq_true (by omega), decide_eq_true (by omega)]
          rfl
        go_wp2
        go_ret
        exact ⟨ret_bool HR2.out.symm, G⟩
  · have HR1 : Hid (R = (aheadB i n yes && aheadB i n no)) := HR.out
    clear HR
    by_cases h1 : yes ≤ (i : Int)
    · have HR2 : Hid (R = false) := by
        show _ = _
        rw [HR1.out, aheadB, decide_eq_false (by omega), Bool.false_and, Bool.false_and]
      go_wp2
      go_ret
      exact ⟨ret_bool HR2.out.symm, G⟩
    · by_cases h2 : (n : Int) ≤ yes
      · have HR2 : Hid (R = false) := by
          show _ = _
          rw [HR1.out, aheadB, decide_eq_false (p := yes < (n : Int)) (by omega), Bool.and_false, Bool.false_and]
        go_wp2
        go_ret
        exact ⟨ret_bool HR2.out.symm, G⟩
      · have HR3 : Hid (R = aheadB i n no) := by
          show _ = _
          rw [HR1.out]
          rw [show aheadB i n yes = true by rw [aheadB, decide_eq_true (by omega), decide_eq_true (by omega)]; rfl, Bool.true_and]
        clear HR1
        by_cases h3 : (i : Int) < no
        · by_cases h4 : no < (n : Int)
          · have HR2 : Hid (R = true) := by
              show _ = _
              rw [HR3.out, aheadB, decide_eq_true h3, decide_eq_true h4]
              rfl
            go_wp2
            go_ret
            exact ⟨ret_bool HR2.out.symm, G⟩
          · have HR2 : Hid (R = false) := by
              show _ = _
              rw [HR3.out, aheadB, decide_eq_false h4, Bool.and_false]
            go_wp2
            go_ret
            exact ⟨ret_bool HR2.out.symm, G⟩
        · have HR2 : Hid (R = false) := by
            show _ = _
            rw [HR3.out, aheadB, decide_eq_false h3, Bool.false_and]
          go_wp2
          go_ret
          exact ⟨ret_bool HR2.out.symm, G⟩

set_option maxHeartbeats 4000000 in
theorem refgcheck_any (a : Option Addr) (ca : Nat) (xs : List Bv) (w : World) (ha : GC w a xs) (hlen : ∀ x ∈ xs, x.b.code.length ≤ 4611686018427387904) :
    Calls Try.prog 33 #[.slice a xs.length ca] w fun e w' => e = .returned (.tuple #[.int .i64 ((gckG (gOf xs)).1 : Int), .int .i64 (gckG (gOf xs)).2]) ∧ w.grownBy w' none := by
  have H : Hid (GC w a xs) := ha
  clear ha
  by_cases h0 : xs.length = 0
  · have e : gckG (gOf xs) = (0, 150) := by rw [gckG, if_pos (by rw [gOf_len]; exact h0)]
    rw [e]
    have h0' : ((xs.length : Int) == 0) = true := by rw [h0]; rfl
    have H0 : Hid (xs.length = 0) := h0
    clear h0
    go_enter Try.func33, Try.ntmps33
    go_wp2
    go_ret2
    exact ⟨rfl, World.grownBy.refl _ _⟩
  · have h0' : ((xs.length : Int) == 0) = false := by rw [beq_eq_false_iff_ne]; omega
    by_cases h4 : 4096 < xs.length
    · have e : gckG (gOf xs) = (4096, 151) := by rw [gckG, if_neg (by rw [gOf_len]; exact h0), if_pos (by rw [gOf_len]; exact h4)]
      rw [e]
      have h4' : (4096 : Int) < (xs.length : Int) := by omega
      go_enter Try.func33, Try.ntmps33
      go_wp2
      go_ret2
      exact ⟨rfl, World.grownBy.refl _ _⟩
    · have e : gckG (gOf xs) = firstG xs.length 0 4096 (gOf xs) := by rw [gckG, if_neg (by rw [gOf_len]; exact h0), if_neg (by rw [gOf_len]; exact h4), gOf_len]
      obtain ⟨p, q, hpq⟩ : ∃ p q, gckG (gOf xs) = (p, q) := ⟨_, _, rfl⟩
      have HE : Hid (firstG xs.length 0 4096 ((gOf xs).drop 0) = (p, q)) := by rw [← hpq, e, List.drop_zero]; rfl
      rw [hpq]
      have h4' : ¬ (4096 : Int) < (xs.length : Int) := by omega
      clear e hpq
      go_enter Try.func33, Try.ntmps33
      go_wp2
      go_loopw [4, 5] (fun r i wr => ∃ (k : Nat) (rm : Int), k ≤ xs.length ∧ i = .int .i64 k ∧ r = .int .i64 rm ∧ Hid (firstG xs.length k rm ((gOf xs).drop k) = (p, q)) ∧ 0 ≤ rm ∧ rm ≤ 4096 ∧ w.grownBy wr none) (fun _ i _ => xs.length - (intOf i).toNat)
      case atStart => exact ⟨0, 4096, Nat.zero_le _, rfl, rfl, HE, by omega, by omega, World.grownBy.refl _ _⟩
      case round =>
        clear HE
        obtain ⟨k, rm, hk, rfl, rfl, HN, hr0, hr1, G⟩ := hrel
        by_cases hlt : k < xs.length
        · have hl : (k : Int) < (xs.length : Int) := by omega
          obtain ⟨b1, o1, rfl, h1⟩ := ((H.out.keptNone G).1).blocks hlt
          have h1 := h1 k hlt
          have hok := (H.out.keptNone G).2 xs[k] (List.getElem_mem hlt)
          have hle := hlen xs[k] (List.getElem_mem hlt)
          have HN2 := HN.out
          rw [firstG_drop (by rw [gOf_len]; exact hlt)] at HN2
          rw [show (gOf xs)[k]'(by rw [gOf_len]; exact hlt) = xs[k].b by simp [gOf]] at HN2
          generalize xs[k] = x at *
          obtain ⟨b, xa, xc⟩ := x
          simp only at HN2 hle
          have CC := fun W (G' : wr.grownBy W none) => grefcode_any xa xc b.code W (hok.1.keptNone G') (by omega)
          have CE := fun W => refend_any b xa xc W
          have CL := fun W (he : gendsB b = true) => refgoals_any b xa xc k xs.length W (ends_cases he)
          have HN3 : Hid ((if faultB b k xs.length (rm - b.code.length) = 0 then firstG xs.length (k + 1) (rm - b.code.length) ((gOf xs).drop (k + 1)) else (k, faultB b k xs.length (rm - b.code.length))) = (p, q)) := HN2
          have HF : Hid (faultB b k xs.length (rm - b.code.length) = if rm - (b.code.length : Int) < 0 then 151 else if straightB b.code = false then 152 else if gendsB b = false then 153 else if leadsB b k xs.length = false then 154 else 0) := rfl
          clear HN2 HN hok
          have c0 := h1 0 _ rfl
          have c1 := h1 1 _ rfl
          have c2 := h1 2 _ rfl
          have c3 := h1 3 _ rfl
          have c4 := h1 4 _ rfl
          have c5 := h1 5 _ rfl
          have c6 := h1 6 _ rfl
          have c7 := h1 7 _ rfl
          clear h1
          rw [Nat.add_zero] at c0
          obtain ⟨code, en, ⟨ic, it, jf, ik⟩, yes, no⟩ := b
          simp only at c0 c1 c2 c3 c4 c5 c6 c7 hle
          simp only [bkV, bkA] at CE CL HN3 HF CC
          generalize faultB ⟨code, en, ⟨ic, it, jf, ik⟩, yes, no⟩ k xs.length (rm - (code.length : Int)) = fb at *
          generalize straightB code = s at *
          generalize gendsB ⟨code, en, ⟨ic, it, jf, ik⟩, yes, no⟩ = en' at *
          generalize leadsB ⟨code, en, ⟨ic, it, jf, ik⟩, yes, no⟩ k xs.length = le at *
          have hsub : IntKind.i64.wrap (rm - (code.length : Int)) = rm - (code.length : Int) := by rw [IntKind.wrap_i64]; omega
          have HBAD : Hid (∀ v, fb = v → v ≠ 0 → (k, v) = (p, q)) := fun v h hv => by
            have := HN3.out
            rw [if_neg (by rw [h]; exact hv), h] at this
            exact this
          by_cases hgt : rm < (code.length : Int)
          · have HP : Hid ((k, (151 : Int)) = (p, q)) := HBAD.out 151 (HF.out.trans (if_pos (by omega))) (by decide)
            clear CC CE CL HN3 HF HBAD
            go_wp2
            go_ret2
            obtain ⟨rfl, rfl⟩ := Prod.mk.inj HP.out
            exact ⟨rfl, G⟩
          · have HF1 : Hid (fb = if s = false then 152 else if en' = false then 153 else if le = false then 154 else 0) := HF.out.trans (if_neg (by omega))
            clear HF
            go_wp2_with fail
            refine (CC _ (World.grownBy.refl _ _)).mono ?_
            rintro e w2 ⟨rfl, K2⟩
            have G2 := grown_trans G K2
            cases s with
            | false =>
              have HP : Hid ((k, (152 : Int)) = (p, q)) := HBAD.out 152 HF1.out (by decide)
              clear CC CE CL HN3 HF1 HBAD
              go_wp2
              go_ret2
              obtain ⟨rfl, rfl⟩ := Prod.mk.inj HP.out
              exact ⟨rfl, G2⟩
            | true =>
              have HF2 : Hid (fb = if en' = false then 153 else if le = false then 154 else 0) := HF1.out
              have d0 := K2.cell c0 (by simp)
              have d1 := K2.cell c1 (by simp)
              have d2 := K2.cell c2 (by simp)
              have d3 := K2.cell c3 (by simp)
              have d4 := K2.cell c4 (by simp)
              have d5 := K2.cell c5 (by simp)
              have d6 := K2.cell c6 (by simp)
              have d7 := K2.cell c7 (by simp)
              clear c0 c1 c2 c3 c4 c5 c6 c7 K2 G HF1 CC
              go_wp2_with fail
              refine (CE _).mono ?_
              rintro e w3 ⟨rfl, K3⟩
              have G3 := grown_trans G2 K3
              cases en' with
              | false =>
                have HP : Hid ((k, (153 : Int)) = (p, q)) := HBAD.out 153 HF2.out (by decide)
                clear CE CL HN3 HF2 HBAD
                go_wp2
                go_ret2
                obtain ⟨rfl, rfl⟩ := Prod.mk.inj HP.out
                exact ⟨rfl, G3⟩
              | true =>
                have HF3 : Hid (fb = if le = false then 154 else 0) := HF2.out
                have c0 := K3.cell d0 (by simp)
                have c1 := K3.cell d1 (by simp)
                have c2 := K3.cell d2 (by simp)
                have c3 := K3.cell d3 (by simp)
                have c4 := K3.cell d4 (by simp)
                have c5 := K3.cell d5 (by simp)
                have c6 := K3.cell d6 (by simp)
                have c7 := K3.cell d7 (by simp)
                clear d0 d1 d2 d3 d4 d5 d6 d7 K3 G2 HF2 CE
                go_wp2_with fail
                refine (CL _ (by simp)).mono ?_
                rintro e w4 ⟨rfl, K4⟩
                have G4 := grown_trans G3 K4
                clear c0 c1 c2 c3 c4 c5 c6 c7 K4 G3 CL
                cases le with
                | false =>
                  have HP : Hid ((k, (154 : Int)) = (p, q)) := HBAD.out 154 HF3.out (by decide)
                  clear HN3 HF3 HBAD
                  go_wp2
                  go_ret2
                  obtain ⟨rfl, rfl⟩ := Prod.mk.inj HP.out
                  exact ⟨rfl, G4⟩
                | true =>
                  have hfb : fb = 0 := HF3.out
                  have HN4 : Hid (firstG xs.length (k + 1) (rm - (code.length : Int)) ((gOf xs).drop (k + 1)) = (p, q)) := (if_pos hfb).symm.trans HN3.out
                  clear HN3 HF3 HBAD hfb
                  go_wp2
                  go_roundw
                  case rel => exact ⟨k + 1, rm - (code.length : Int), by omega, by go_num, rfl, HN4, by omega, by omega, G4⟩
                  case measure => simp [intOf]; omega
        · have hl : ¬ (k : Int) < (xs.length : Int) := by omega
          have HP : Hid ((0, 0) = (p, q)) := by
            have := HN.out
            rw [List.drop_eq_nil_of_le (by rw [gOf_len]; omega), firstG] at this
            exact this
          go_wp2
          go_ret2
          obtain ⟨rfl, rfl⟩ := Prod.mk.inj HP.out
          exact ⟨rfl, G⟩

end Go.Proofs.Ytelgfegkobkhiaa
