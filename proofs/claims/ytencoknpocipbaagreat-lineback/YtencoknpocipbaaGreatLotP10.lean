/-
  Package check as landed: the five questions walked, and the row of them. Package check as landed: Check. Package check as landed: its contracts.
-/
import Derived.Test.YtencoknpocipbaaGreatLotP9
import Derived.Deep.DeepCutAuto
import Derived.Laws.EntriesVeiled
import Derived.Test.YtencoknpocipbaaGreatLotP4
namespace Go.Proofs.YtencoknpocipbaaGreat
open Go.RowKit
set_option maxRecDepth 100000

set_option maxHeartbeats 400000 in
theorem q1_any (at' c t f k : Nat) (w : World) :
    Calls Tryz.prog 102 #[.int .i64 (at' : Int), .agg #[.int .u16 (c : Int), .int .u8 t, .int .u8 f, .int .u32 k]] w fun e w' => e = .returned (.bool (!knownB c)) ∧ w.grownBy w' none := by
  have G0 : w.grownBy (w.alloc (.cells #[.int .u16 (c : Int), .int .u8 t, .int .u8 f, .int .u32 k] 54)) none := World.grownBy_alloc _ _ _
  go_enter Tryz.func102, Tryz.ntmps102
  go_wp2_with fail
  refine (known_any c _).mono ?_
  rintro e w' ⟨rfl, G⟩
  go_wp2
  go_ret
  exact ⟨rfl, grown_trans G0 G⟩

set_option maxHeartbeats 400000 in
theorem q2_any (at' c t f k : Nat) (w : World) :
    Calls Tryz.prog 104 #[.int .i64 (at' : Int), .agg #[.int .u16 (c : Int), .int .u8 t, .int .u8 f, .int .u32 k]] w fun e w' => e = .returned (.bool (memB c && decide (16 ≤ k))) ∧ w.grownBy w' none := by
  have G0 : w.grownBy (w.alloc (.cells #[.int .u16 (c : Int), .int .u8 t, .int .u8 f, .int .u32 k] 54)) none := World.grownBy_alloc _ _ _
  have e16 : decide (16 ≤ k) = decide ((16 : Int) ≤ (k : Int)) := by simp only [decide_eq_decide]; omega
  rw [e16]
  cases hm : memB c with
  | false =>
    go_enter Tryz.func104, Tryz.ntmps104
    go_wp2_with fail
    refine (scratch_any c t f k _).mono ?_
    rintro e w1 ⟨rfl, G⟩
    rw [hm]
    go_wp2
    go_ret
    exact ⟨rfl, grown_trans G0 G⟩
  | true =>
    go_enter Tryz.func104, Tryz.ntmps104
    go_wp2_with fail
    refine (scratch_any c t f k _).mono ?_
    rintro e w1 ⟨rfl, G⟩
    rw [hm]
    have y3 : w1.cell? ⟨w.heap.size, 3, none⟩ = some (.int .u32 (k : Int)) := G.cell ((cv_lit w 54 [.int .u16 (c : Int), .int .u8 t, .int .u8 f, .int .u32 k]).2 _ rfl 3 (by simp)) (by simp)
    have G1 := grown_trans G0 G
    clear G0 G
    go_wp2
    go_ret
    exact ⟨rfl, G1⟩

set_option maxHeartbeats 400000 in
theorem q3_any (at' c t f k : Nat) (w : World) :
    Calls Tryz.prog 106 #[.int .i64 (at' : Int), .agg #[.int .u16 (c : Int), .int .u8 t, .int .u8 f, .int .u32 k]] w fun e w' => e = .returned (.bool (divB c && k == 0)) ∧ w.grownBy w' none := by
  have ek : (k == 0) = ((k : Int) == 0) := by
    by_cases h : k = 0
    · rw [h]; rfl
    · rw [beq_eq_false_iff_ne.2 h, beq_eq_false_iff_ne.2 (by omega)]
  rw [ek]
  cases h1 : ((c : Int) == 52) with
  | true =>
    go_enter Tryz.func106, Tryz.ntmps106
    go_wp2
    go_ret
    exact ⟨ret_bool (by simp [divB, h1]), World.grownBy_alloc _ _ _⟩
  | false =>
    cases h2 : ((c : Int) == 148) with
    | true =>
      go_enter Tryz.func106, Tryz.ntmps106
      go_wp2
      go_ret
      exact ⟨ret_bool (by simp [divB, h1, h2]), World.grownBy_alloc _ _ _⟩
    | false =>
      go_enter Tryz.func106, Tryz.ntmps106
      go_wp2
      go_ret
      exact ⟨ret_bool (by simp [divB, h1, h2]), World.grownBy_alloc _ _ _⟩

set_option maxHeartbeats 400000 in
theorem q4_any (at' c t f k : Nat) (w : World) :
    Calls Tryz.prog 107 #[.int .i64 (at' : Int), .agg #[.int .u16 (c : Int), .int .u8 t, .int .u8 f, .int .u32 k]] w fun e w' => e = .returned (.bool (shfB c && decide (31 < k))) ∧ w.grownBy w' none := by
  have ek : decide (31 < k) = decide ((31 : Int) < (k : Int)) := by simp only [decide_eq_decide]; omega
  rw [ek]
  cases h1 : ((c : Int) == 100) with
  | true =>
    go_enter Tryz.func107, Tryz.ntmps107
    go_wp2
    go_ret
    exact ⟨ret_bool (by simp [shfB, h1]), World.grownBy_alloc _ _ _⟩
  | false =>
    cases h2 : ((c : Int) == 116) with
    | true =>
      go_enter Tryz.func107, Tryz.ntmps107
      go_wp2
      go_ret
      exact ⟨ret_bool (by simp [shfB, h1, h2]), World.grownBy_alloc _ _ _⟩
    | false =>
      go_enter Tryz.func107, Tryz.ntmps107
      go_wp2
      go_ret
      exact ⟨ret_bool (by simp [shfB, h1, h2]), World.grownBy_alloc _ _ _⟩

set_option maxHeartbeats 1000000 in
theorem q5_any (at' c t f k b n : Nat) (w : World) (hc : w.cell? ⟨b, 0, none⟩ = some (.int .i64 (n : Int))) (ha : at' < n) (hn : n ≤ 4096) (ht : t < 256) (hf : f < 256) :
    Calls Tryz.prog 108 #[.int .i64 (at' : Int), .agg #[.int .u16 (c : Int), .int .u8 t, .int .u8 f, .int .u32 k], .pointer (some ⟨b, 0, none⟩)] w fun e w' => e = .returned (.bool (jumpBad c t f k (n - 1 - at'))) ∧ w.grownBy w' none := by
  have G0 : w.grownBy (w.alloc (.cells #[.int .u16 (c : Int), .int .u8 t, .int .u8 f, .int .u32 k] 54)) none := World.grownBy_alloc _ _ _
  have hc' := G0.cell hc (by simp)
  rw [← goals_bad]
  obtain ⟨room, hr⟩ : ∃ room : Nat, n - 1 - at' = room := ⟨_, rfl⟩
  rw [hr]
  have hr1 : IntKind.u32.wrap ((n : Int) - 1 - (at' : Int)) = (room : Int) := by rw [IntKind.wrap_u32]; omega
  have HR : Hid (n - 1 - at' = room) := hr
  clear hr
  cases hl : leapB c with
  | false =>
    go_enter Tryz.func108, Tryz.ntmps108
    go_wp2_with fail
    refine (leaps_any c t f k _ ht hf).mono ?_
    rintro e w1 ⟨rfl, G⟩
    have G1 := grown_trans G0 G
    clear G G0 hc hc' hr1
    rw [hl]
    go_wp2
    go_ret
    exact ⟨rfl, G1⟩
  | true =>
    go_enter Tryz.func108, Tryz.ntmps108
    go_wp2_with fail
    refine (leaps_any c t f k _ ht hf).mono ?_
    rintro e w1 ⟨rfl, G⟩
    have G1 := grown_trans G0 G
    clear G G0 hc hc' hr1
    rw [hl]
    go_wp2
    all_goals
      go_ret
      refine ⟨ret_bool ?_, G1⟩
      first
        | rfl
        | (simp; omega)

theorem ask_any (q n at' b : Nat) (x : In) (w : World) (hq : q < 5) (hc : w.cell? ⟨b, 0, none⟩ = some (.int .i64 (n : Int))) (ha : at' < n) (hn : n ≤ 4096) :
    Calls Tryz.prog (askN q) (#[.int .i64 (at' : Int), .agg #[.int .u16 (x.code.toNat : Int), .int .u8 (x.jt.toNat : Int), .int .u8 (x.jf.toNat : Int), .int .u32 (x.k.toNat : Int)]] ++ askC b q) w fun e w' => e = .returned (.bool (askB n at' x q)) ∧ w.grownBy w' none := by
  have hs : q = 0 ∨ q = 1 ∨ q = 2 ∨ q = 3 ∨ q = 4 := by omega
  rcases hs with rfl | rfl | rfl | rfl | rfl
  · exact q1_any at' _ _ _ _ w
  · exact q2_any at' _ _ _ _ w
  · exact q3_any at' _ _ _ _ w
  · exact q4_any at' _ _ _ _ w
  · exact q5_any at' _ _ _ _ b n w hc ha hn x.jt.toNat_lt x.jf.toNat_lt

/-- The row of questions, and the number that the last one has caught. -/
def RowAt (w : World) (g b n : Nat) : Prop := (∀ q, q < 5 → w.cell? ⟨g, q * 2, none⟩ = some (.int .i64 (askE q)) ∧ w.cell? ⟨g, q * 2 + 1, none⟩ = some (.func (.func (askN q)) #[] (askC b q))) ∧ w.cell? ⟨b, 0, none⟩ = some (.int .i64 (n : Int))
theorem RowAt.grown {w w' : World} {g b n : Nat} (h : RowAt w g b n) (G : w.grownBy w' none) : RowAt w' g b n :=
  ⟨fun q hq => ⟨G.cell (h.1 q hq).1 (by simp), G.cell (h.1 q hq).2 (by simp)⟩, G.cell h.2 (by simp)⟩

set_option maxHeartbeats 1000000 in
theorem questions_any (n : Nat) (w : World) :
    Calls Tryz.prog 53 #[.int .i64 (n : Int)] w fun e w' => ∃ g b, e = .returned (.slice (some ⟨g, 0, none⟩) 5 5) ∧ RowAt w' g b n ∧ w.grownBy w' none := by
  go_enter Tryz.func53, Tryz.ntmps53
  go_wp2
  go_ret
  have C1 := cv_lit w 3 [.int .i64 (n : Int)]
  have C2 := cv_lit (w.alloc (.cells #[.int .i64 (n : Int)] 3)) 116 [.int .i64 42, .func (.func 102) #[] #[], .int .i64 43, .func (.func 104) #[] #[], .int .i64 44, .func (.func 106) #[] #[], .int .i64 45, .func (.func 107) #[] #[], .int .i64 46, .func (.func 108) #[] #[.pointer (some ⟨w.heap.size, 0, none⟩)]]
  have K2 := World.grownBy_alloc (w.alloc (.cells #[.int .i64 (n : Int)] 3)) (.cells #[.int .i64 42, .func (.func 102) #[] #[], .int .i64 43, .func (.func 104) #[] #[], .int .i64 44, .func (.func 106) #[] #[], .int .i64 45, .func (.func 107) #[] #[], .int .i64 46, .func (.func 108) #[] #[.pointer (some ⟨w.heap.size, 0, none⟩)]] 116) none
  have G2 := grown_trans (World.grownBy_alloc w (.cells #[.int .i64 (n : Int)] 3) none) K2
  have hz : (w.alloc (.cells #[.int .i64 (n : Int)] 3)).heap.size = w.heap.size + 1 := by simp
  rw [hz] at C2
  have hb := K2.cell (C1.2 _ rfl 0 (by simp)) (by simp)
  refine ⟨_, w.heap.size, rfl, ⟨fun q hq => ?_, ?_⟩, ?_⟩
  · have hs : q = 0 ∨ q = 1 ∨ q = 2 ∨ q = 3 ∨ q = 4 := by omega
    rcases hs with rfl | rfl | rfl | rfl | rfl
    · exact ⟨C2.2 _ rfl 0 (by simp), C2.2 _ rfl 1 (by simp)⟩
    · exact ⟨C2.2 _ rfl 2 (by simp), C2.2 _ rfl 3 (by simp)⟩
    · exact ⟨C2.2 _ rfl 4 (by simp), C2.2 _ rfl 5 (by simp)⟩
    · exact ⟨C2.2 _ rfl 6 (by simp), C2.2 _ rfl 7 (by simp)⟩
    · exact ⟨C2.2 _ rfl 8 (by simp), C2.2 _ rfl 9 (by simp)⟩
  · exact hb
  · exact G2

end Go.Proofs.YtencoknpocipbaaGreat

namespace Go.Proofs.YtencoknpocipbaaGreat
open Go.RowKit
set_option maxRecDepth 100000

theorem hitQ_hit {n j q : Nat} {x : In} (hq : q < 5) (h : askB n j x q = true) : hitQ n j x q = askE q := by rw [hitQ, if_pos hq, if_pos h]
theorem hitQ_next {n j q : Nat} {x : In} (hq : q < 5) (h : askB n j x q = false) : hitQ n j x q = hitQ n j x (q + 1) := by rw [hitQ, if_pos hq, if_neg (by rw [h]; simp)]
theorem hitQ_end {n j : Nat} {x : In} : hitQ n j x 5 = 0 := by rw [hitQ, if_neg (by decide)]

set_option maxRecDepth 100000 in
set_option maxHeartbeats 2000000 in
theorem first_any (a : Option Addr) (ca : Nat) (xs : List In) (w : World) (ha : CV w a (flat xs)) (hn : xs.length ≤ 4096) :
    Calls Tryz.prog 35 #[.slice a xs.length ca] w fun e w' => e = .returned (.tuple #[.int .i64 (((firstBad xs.length 0 xs).getD (0, 0)).1 : Int), .int .i64 ((firstBad xs.length 0 xs).getD (0, 0)).2]) ∧ w.grownBy w' none := by
  have H : Hid (CV w a (flat xs)) := ha
  clear ha
  obtain ⟨ans, hans⟩ : ∃ ans, firstBad xs.length 0 xs = ans := ⟨_, rfl⟩
  rw [hans]
  have HF : Hid (firstBad xs.length 0 xs = ans) := hans
  clear hans
  go_enter Tryz.func35, Tryz.ntmps35
  go_wp2; go_step3
  go_wp2_with fail
  refine (questions_any xs.length _).mono ?_
  rintro e w1 ⟨g, b, rfl, R1, G1⟩
  have HR1 : Hid (RowAt w1 g b xs.length) := R1
  clear R1
  go_wp2; go_step3
  go_wp2
  go_loopw [5, 6, 16] (fun p f i wr => ∃ j : Nat, j ≤ xs.length ∧ p = .int .i64 0 ∧ f = .int .i64 0 ∧ i = .int .i64 j ∧ firstBad xs.length j (xs.drop j) = ans ∧ w1.grownBy wr none) (fun _ _ i _ => xs.length - (intOf i).toNat)
  case atStart => exact ⟨0, Nat.zero_le _, rfl, rfl, rfl, HF.out, World.grownBy.refl _ _⟩
  case round =>
    clear HF
    obtain ⟨wo, rfl⟩ : ∃ wo : World, wo = wr := ⟨_, rfl⟩
    obtain ⟨j, hj, rfl, rfl, rfl, hi, G⟩ := hrel
    have HI : Hid (firstBad xs.length j (xs.drop j) = ans) := hi
    clear hi
    by_cases hlt : j < xs.length
    · obtain ⟨bb, o, rfl, hc⟩ := H.out.insns hlt
      obtain ⟨c0, c1, c2, c3⟩ := hc j hlt
      have HX : Hid (ans = if badV xs.length j xs[j] = 0 then firstBad xs.length (j + 1) (xs.drop (j + 1)) else some (j, badV xs.length j xs[j])) := by
        show ans = _
        rw [← HI.out, List.drop_eq_getElem_cons hlt, firstBad]
      clear hc HI
      generalize xs[j] = x at *
      have hl : (j : Int) < (xs.length : Int) := by omega
      have GW := grown_trans G1 G
      have g0 : wo.cell? ⟨bb, o + j * 4, none⟩ = some (.int .u16 (x.code.toNat : Int)) := GW.cell c0 (by simp)
      have g1 : wo.cell? ⟨bb, o + j * 4 + 1, none⟩ = some (.int .u8 (x.jt.toNat : Int)) := GW.cell c1 (by simp)
      have g2 : wo.cell? ⟨bb, o + j * 4 + 2, none⟩ = some (.int .u8 (x.jf.toNat : Int)) := GW.cell c2 (by simp)
      have g3 : wo.cell? ⟨bb, o + j * 4 + 3, none⟩ = some (.int .u32 (x.k.toNat : Int)) := GW.cell c3 (by simp)
      clear c0 c1 c2 c3 GW
      go_upto_region 6 with fail
      have C0 := cv_lit wo 54 [.int .u16 (x.code.toNat : Int), .int .u8 (x.jt.toNat : Int), .int .u8 (x.jf.toNat : Int), .int .u32 (x.k.toNat : Int)]
      have HB : Hid (CV (wo.alloc (.cells #[.int .u16 (x.code.toNat : Int), .int .u8 (x.jt.toNat : Int), .int .u8 (x.jf.toNat : Int), .int .u32 (x.k.toNat : Int)] 54)) (some ⟨wo.heap.size, 0, none⟩) [.int .u16 (x.code.toNat : Int), .int .u8 (x.jt.toNat : Int), .int .u8 (x.jf.toNat : Int), .int .u32 (x.k.toNat : Int)]) := C0
      have GB := grown_trans G (World.grownBy_alloc wo (.cells #[.int .u16 (x.code.toNat : Int), .int .u8 (x.jt.toNat : Int), .int .u8 (x.jf.toNat : Int), .int .u32 (x.k.toNat : Int)] 54) none)
      clear g0 g1 g2 g3 C0 G
      generalize wo.alloc (.cells #[.int .u16 (x.code.toNat : Int), .int .u8 (x.jt.toNat : Int), .int .u8 (x.jf.toNat : Int), .int .u32 (x.k.toNat : Int)] 54) = wb at *
      generalize wo.heap.size = B at *
      clear wo
      go_wp2
      go_loopw [5, 6, 23] (fun p f i wr => ∃ q : Nat, q ≤ 5 ∧ p = .int .i64 0 ∧ f = .int .i64 0 ∧ i = .int .i64 q ∧ Hid (hitQ xs.length j x q = badV xs.length j x) ∧ wb.grownBy wr none) (fun _ _ i _ => 5 - (intOf i).toNat)
      case atStart => exact ⟨0, Nat.zero_le _, rfl, rfl, rfl, hitQ_bad _ _ _, World.grownBy.refl _ _⟩
      case round =>
        obtain ⟨q, hq, rfl, rfl, rfl, HQ, K⟩ := hrel
        by_cases hq5 : q < 5
        · have hl5 : (q : Int) < 5 := by omega
          have RW := HR1.out.grown (grown_trans GB K)
          obtain ⟨r0, r1⟩ := RW.1 q hq5
          have rb := RW.2
          have he := askN_enters q
          have hask := fun W hc => ask_any q xs.length j b x W hq5 hc hlt hn
          have HA : Hid ((askB xs.length j x q = true → hitQ xs.length j x q = askE q) ∧ (askB xs.length j x q = false → hitQ xs.length j x q = hitQ xs.length j x (q + 1))) := ⟨hitQ_hit hq5, hitQ_next hq5⟩
          have HASK : Hid (∀ W : World, W.cell? ⟨b, 0, none⟩ = some (.int .i64 (xs.length : Int)) → Calls Tryz.prog (askN q) (#[.int .i64 (j : Int), .agg #[.int .u16 (x.code.toNat : Int), .int .u8 (x.jt.toNat : Int), .int .u8 (x.jf.toNat : Int), .int .u32 (x.k.toNat : Int)]] ++ askC b q) W fun e w' => e = .returned (.bool (askB xs.length j x q)) ∧ W.grownBy w' none) := hask
          have HER : Hid (askE q ≠ 0) := by show askE q ≠ 0; unfold askE; omega
          clear hask RW
          generalize askN q = fn at *
          generalize askC b q = lb at *
          generalize askE q = er at *
          generalize askB xs.length j x q = yes at *
          go_upto_region 9 with fail
          have C1 := cv_lit wr 116 [.int .i64 er, .func (.func fn) #[] lb]
          have HC : Hid (CV (wr.alloc (.cells #[.int .i64 er, .func (.func fn) #[] lb] 116)) (some ⟨wr.heap.size, 0, none⟩) [.int .i64 er, .func (.func fn) #[] lb]) := C1
          have KA := World.grownBy_alloc wr (.cells #[.int .i64 er, .func (.func fn) #[] lb] 116) none
          have rb' := KA.cell rb (by simp)
          have KC := grown_trans K KA
          clear C1 KA K rb r0 r1
          generalize wr.alloc (.cells #[.int .i64 er, .func (.func fn) #[] lb] 116) = wc at *
          generalize wr.heap.size = C at *
          clear wr
          have y1 : wc.cell? ⟨C, 1, none⟩ = some (.func (.func fn) #[] lb) := HC.out.2 _ rfl 1 (by simp)
          have z0 : wc.cell? ⟨B, 0, none⟩ = some (.int .u16 (x.code.toNat : Int)) := KC.cell (HB.out.2 _ rfl 0 (by simp)) (by simp)
          have z1 : wc.cell? ⟨B, 1, none⟩ = some (.int .u8 (x.jt.toNat : Int)) := KC.cell (HB.out.2 _ rfl 1 (by simp)) (by simp)
          have z2 : wc.cell? ⟨B, 2, none⟩ = some (.int .u8 (x.jf.toNat : Int)) := KC.cell (HB.out.2 _ rfl 2 (by simp)) (by simp)
          have z3 : wc.cell? ⟨B, 3, none⟩ = some (.int .u32 (x.k.toNat : Int)) := KC.cell (HB.out.2 _ rfl 3 (by simp)) (by simp)
          have cS := HASK.out wc rb'
          clear HASK rb'
          cases hy : yes with
          | true =>
            subst hy
            have hb : badV xs.length j x = er := by rw [← HQ.out]; exact HA.out.1 rfl
            go_wp2_with (go_at_fn fn; refine cS.mono ?_; rintro e w2 ⟨rfl, K2⟩; have y0 : w2.cell? ⟨C, 0, none⟩ = some (.int .i64 er) := K2.cell (HC.out.2 _ rfl 0 (by simp)) (by simp))
            have HAN : Hid (ans = some (j, er)) := by
              show ans = _
              rw [HX.out, hb, if_neg HER.out]
            have GN := grown_trans G1 (grown_trans GB (grown_trans KC K2))
            clear HX hb cS HA HER HQ
            go_quiet (fail)
            go_wp2
            rw [Exit.noGoto_ret]
            go_ret2
            exact ⟨by rw [HAN.out]; rfl, grown_trans GN (grown_drewN _ _ none)⟩
          | false =>
            subst hy
            have hb : hitQ xs.length j x (q + 1) = badV xs.length j x := by rw [← HQ.out]; exact (HA.out.2 rfl).symm
            have HBD : Hid (hitQ xs.length j x (q + 1) = badV xs.length j x) := hb
            clear hb
            go_wp2_with (go_at_fn fn; refine cS.mono ?_; rintro e w2 ⟨rfl, K2⟩)
            go_roundw
            case rel => exact ⟨q + 1, by omega, rfl, rfl, by go_num, HBD, grown_trans KC K2⟩
            case measure => simp [intOf]; omega
        · obtain rfl : q = 5 := by omega
          have hb : badV xs.length j x = 0 := by rw [← HQ.out]; exact hitQ_end
          have HN : Hid (firstBad xs.length (j + 1) (xs.drop (j + 1)) = ans) := by
            show _ = ans
            rw [HX.out, if_pos hb]
          rw [show ((5 : Nat) : Int) = 5 from rfl]
          have GN := grown_trans GB K
          clear HX hb HQ K
          go_wp2
          go_roundw
          case rel => exact ⟨j + 1, by omega, rfl, rfl, by go_num, HN.out, GN⟩
          case measure => simp [intOf]; omega
    · obtain rfl : j = xs.length := by omega
      have hr : ans = none := by rw [← HI.out, List.drop_length]; rfl
      have GN := grown_trans G1 G
      go_wp2
      rw [Exit.noGoto_ret]
      go_ret2
      exact ⟨by rw [hr]; rfl, GN⟩

end Go.Proofs.YtencoknpocipbaaGreat

namespace Go.Proofs.YtencoknpocipbaaGreat
open Go.RowKit
set_option maxRecDepth 100000

theorem last_at {xs : List In} (h : xs.length - 1 < xs.length) : lastB xs = retB xs[xs.length - 1].code.toNat := by
  rw [lastB, List.getLast?_eq_getElem?, List.getElem?_eq_getElem h]

set_option maxRecDepth 100000 in
set_option maxHeartbeats 1000000 in
theorem check_any (a : Option Addr) (ca : Nat) (xs : List In) (w : World) (ha : CV w a (flat xs)) :
    Calls Tryz.prog 17 #[.slice a xs.length ca] w fun e w' => e = .returned (.tuple #[.int .i64 ((checkV xs).1 : Int), .int .i64 (checkV xs).2]) ∧ w.grownBy w' none := by
  have H : Hid (CV w a (flat xs)) := ha
  clear ha
  by_cases h0 : xs.length = 0
  · have e : checkV xs = (0, 40) := by rw [checkV, if_pos h0]
    rw [e]
    have h0' : ((xs.length : Int) == 0) = true := by rw [h0]; rfl
    have H0 : Hid (xs.length = 0) := h0
    clear h0
    go_enter Tryz.func17, Tryz.ntmps17
    go_wp2
    go_ret2
    exact ⟨rfl, World.grownBy.refl _ _⟩
  · have h0' : ((xs.length : Int) == 0) = false := by rw [beq_eq_false_iff_ne]; omega
    by_cases h4 : 4096 < xs.length
    · have e : checkV xs = (4096, 41) := by rw [checkV, if_neg h0, if_pos h4]
      rw [e]
      have h4' : (4096 : Int) < (xs.length : Int) := by omega
      go_enter Tryz.func17, Tryz.ntmps17
      go_wp2
      go_ret2
      exact ⟨rfl, World.grownBy.refl _ _⟩
    · have h4' : ¬ ((4096 : Int) < (xs.length : Int)) := by omega
      have e : checkV xs = endV xs (firstBad xs.length 0 xs) := by rw [checkV, if_neg h0, if_neg h4]
      rw [e]
      have CF := first_any a ca xs w H.out (by omega)
      cases hf : firstBad xs.length 0 xs with
      | some r =>
        have hr := firstBad_some hf
        rw [hf] at CF
        obtain ⟨P, E⟩ := r
        have hE : (E != 0) = true := by simpa using hr
        clear hf e hr
        go_enter Tryz.func17, Tryz.ntmps17
        go_wp2_with fail
        refine CF.mono ?_
        rintro e w1 ⟨rfl, G⟩
        dsimp only [Option.getD_some]
        go_wp2
        go_ret2
        exact ⟨rfl, G⟩
      | none =>
        rw [hf] at CF
        have hl1 : xs.length - 1 < xs.length := by omega
        obtain ⟨b, o, rfl, hc⟩ := H.out.insns hl1
        obtain ⟨c0, c1, c2, c3⟩ := hc _ hl1
        have hla := last_at hl1
        have hnat : ((xs.length : Int) - 1).toNat = xs.length - 1 := by omega
        have hm : ((xs.length - 1 : Nat) : Int) = (xs.length : Int) - 1 := by omega
        generalize xs[xs.length - 1] = x at *
        have b0 := x.code.toNat_lt
        have HE : Hid (endV xs none = if retB x.code.toNat = true then (0, 0) else (xs.length - 1, 47)) := by
          show endV xs none = _
          rw [endV, hla]
        have s1 : (xs.length : Int) - 1 < (xs.length : Int) := by omega
        have s2 : (0 : Int) ≤ (xs.length : Int) - 1 := by omega
        clear hc hf e hla
        cases hr : retB x.code.toNat with
        | true =>
          have e : endV xs none = (0, 0) := by rw [HE.out, if_pos hr]
          rw [e]
          clear HE e
          go_enter Tryz.func17, Tryz.ntmps17
          go_wp2_with fail
          refine CF.mono ?_
          rintro e w1 ⟨rfl, G⟩
          dsimp only [Option.getD_none]
          have g0 := G.cell c0 (by simp)
          have g1 := G.cell c1 (by simp)
          have g2 := G.cell c2 (by simp)
          have g3 := G.cell c3 (by simp)
          clear c0 c1 c2 c3 CF
          go_wp2_with fail
          refine (returns_any _ _ _ _ _ (by omega) (by omega)).mono ?_
          rintro e w2 ⟨rfl, G2⟩
          rw [hr]
          have GN := grown_trans G G2
          clear g0 g1 g2 g3 G G2
          go_wp2
          go_ret2
          exact ⟨rfl, GN⟩
        | false =>
          have e : endV xs none = (xs.length - 1, 47) := by rw [HE.out, if_neg (by rw [hr]; simp)]
          rw [e]
          clear HE e
          go_enter Tryz.func17, Tryz.ntmps17
          go_wp2_with fail
          refine CF.mono ?_
          rintro e w1 ⟨rfl, G⟩
          dsimp only [Option.getD_none]
          have g0 := G.cell c0 (by simp)
          have g1 := G.cell c1 (by simp)
          have g2 := G.cell c2 (by simp)
          have g3 := G.cell c3 (by simp)
          clear c0 c1 c2 c3 CF
          go_wp2_with fail
          refine (returns_any _ _ _ _ _ (by omega) (by omega)).mono ?_
          rintro e w2 ⟨rfl, G2⟩
          rw [hr]
          have GN := grown_trans G G2
          have HM : Hid (((xs.length - 1 : Nat) : Int) = (xs.length : Int) - 1) := hm
          clear g0 g1 g2 g3 G G2 hm
          go_wp2
          go_ret2
          exact ⟨by show _ = Ending.returned (.tuple #[.int .i64 ((xs.length - 1 : Nat) : Int), .int .i64 47]); rw [HM.out]; rfl, GN⟩

theorem step_leaps {x : In} {i : Nat} {bs : List Bool} (hb : bs.getD i false = true) (hr : retB x.code.toNat = false) :
    stepB x i bs = (bs.set (i + 1 + yesV x.code.toNat x.jt.toNat x.k.toNat) true).set (i + 1 + noV x.code.toNat x.jf.toNat x.k.toNat) true := by
  unfold stepB yesV noV
  rw [if_neg (by rw [hb, hr]; simp)]
  cases h5 : ((x.code.toNat : Int) == 5) with
  | true => simp
  | false => cases hj : jumpB x.code.toNat <;> simp

theorem leaps_room {x : In} {i n : Nat} (hz : badV n i x = 0) (hl : i + 1 < n) : i + 1 + yesV x.code.toNat x.jt.toNat x.k.toNat < n ∧ i + 1 + noV x.code.toNat x.jf.toNat x.k.toNat < n := by
  obtain ⟨p1, p2⟩ := jumpBad_out (bad_zero hz).2
  unfold yesV noV
  cases h5 : ((x.code.toNat : Int) == 5) with
  | true =>
    have := p1 h5
    simp only [if_true]
    omega
  | false =>
    cases hj : jumpB x.code.toNat with
    | true =>
      have := p2 hj
      simp only [Bool.false_eq_true, if_false, if_true]
      omega
    | false =>
      simp only [Bool.false_eq_true, if_false]
      omega

end Go.Proofs.YtencoknpocipbaaGreat
