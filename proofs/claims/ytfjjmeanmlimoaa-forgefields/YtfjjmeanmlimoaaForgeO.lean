/-
  Package forge as landed: wrong.
-/
import Derived.Test.YtfjjmeanmlimoaaForgeJ
namespace Go.Proofs.Ytfjjmeanmlimoaa
open Go.RowKit
set_option maxRecDepth 100000

def rowA (B C D E : Nat) : Array Value := #[.func (.func 45) #[] #[.pointer (some ⟨C, 0, none⟩), .pointer (some ⟨B, 0, none⟩)], .func (.func 46) #[] #[.pointer (some ⟨C, 0, none⟩), .pointer (some ⟨B, 0, none⟩)], .func (.func 48) #[] #[.pointer (some ⟨C, 0, none⟩)], .func (.func 49) #[] #[.pointer (some ⟨C, 0, none⟩), .pointer (some ⟨B, 0, none⟩)], .func (.func 50) #[] #[.pointer (some ⟨D, 0, none⟩), .pointer (some ⟨C, 0, none⟩)], .func (.func 51) #[] #[.pointer (some ⟨D, 0, none⟩), .pointer (some ⟨C, 0, none⟩)], .func (.func 53) #[] #[.pointer (some ⟨E, 0, none⟩), .pointer (some ⟨C, 0, none⟩)], .func (.func 55) #[] #[.pointer (some ⟨C, 0, none⟩)], .func (.func 56) #[] #[.pointer (some ⟨C, 0, none⟩)], .func (.func 57) #[] #[.pointer (some ⟨C, 0, none⟩)], .func (.func 58) #[] #[.pointer (some ⟨C, 0, none⟩)], .func (.func 59) #[] #[.pointer (some ⟨C, 0, none⟩), .pointer (some ⟨B, 0, none⟩)]]
theorem rowA_at (B C D E q : Nat) (h : q < 12) : (rowA B C D E)[q]? = some (.func (.func (wqN q)) #[] (wqC B C D E q)) := by
  rcases twelve h with rfl | rfl | rfl | rfl | rfl | rfl | rfl | rfl | rfl | rfl | rfl | rfl <;> rfl

set_option maxRecDepth 100000 in
set_option maxHeartbeats 4000000 in
theorem wrong_any (l : Lk) (s : Sp) (a : Option Addr) (ca : Nat) (w : World) (ok : s.ok) : Calls Try.prog 25 #[.agg (lkA l), .agg (spA s a ca)] w fun e w' => e = .returned (.bool (wrongB l s)) ∧ w.grownBy w' none := by
  have I := ls_boxes w l s a ca
  have HSS : Hid ((Try.prog.info? 28).map (·.size) = some (spA s a ca).size) := spA_size ok a ca
  have HOK : Hid s.ok := ok
  clear ok
  obtain ⟨r, hr⟩ : ∃ r, wrongB l s = r := ⟨_, rfl⟩
  rw [hr]
  have HR : Hid (wrongB l s = r) := hr
  clear hr
  go_enter Try.func25, Try.ntmps25
  go_upto_region 1 with fail
  generalize (w.alloc (.cells (lkA l) 23)).alloc (.cells (spA s a ca) 28) = w1 at *
  obtain ⟨B, hB⟩ : ∃ B, w.heap.size = B := ⟨_, rfl⟩
  obtain ⟨C, hC⟩ : ∃ C, w.heap.size + 1 = C := ⟨_, rfl⟩
  rw [hC, hB] at I ⊢
  clear hB hC
  have SK := I.2.1
  go_wp2_with (refine wpList_load_row rfl 28 (.tmp 3) rfl C rfl 28 (spA s a ca) (0, 0) _ SK Try.underlying28 rfl HSS.out ?_)
  refine (fsays_any s a ca _ HOK.out).mono ?_
  rintro e w2 ⟨rfl, K2⟩
  have I2 := ls_call K2 I
  clear I SK K2
  go_upto_region 2 with fail
  have D3 := VAt.alloc w2 4 #[.bool (saidB s)]
  have I3 := ls_call (World.grownBy_alloc w2 (.cells #[.bool (saidB s)] 4) none) I2
  generalize w2.alloc (.cells #[.bool (saidB s)] 4) = w3 at *
  generalize w2.heap.size = D at *
  clear I2
  have c5 : w3.cell? ⟨D, 0, none⟩ = some (.bool (saidB s)) := D3.cell 0
  have c6 := (show SAt w3 C s a ca from ⟨I3.2.1, HOK.out⟩).eight.2.2.2.2.2.2.1
  have key : ∀ x : Bool, x = ipB s → QI B C D w3.heap.size l s a ca (w3.alloc (.cells #[.bool x] 4)) ∧ w.grownBy (w3.alloc (.cells #[.bool x] 4)) none := fun x hx => by
    have K := World.grownBy_alloc w3 (.cells #[.bool x] 4) none
    subst hx
    exact ⟨⟨I3.1.kept K, ⟨I3.2.1.kept K, HOK.out⟩, K.cell c5 (by simp), (VAt.alloc w3 4 #[.bool (ipB s)]).cell 0⟩, grown_trans I3.2.2 K⟩
  have KEY : Hid _ := key
  clear key I3 D3
  go_cut [6, 10] from 11 to 21 (fun v _ wx => ∃ E : Nat, v = .pointer (some ⟨E, 0, none⟩) ∧ Hid (QI B C D E l s a ca wx ∧ w.grownBy wx none))
  case first =>
    cases hs : saidB s with
    | false =>
      rw [hs] at c5
      have HK : Hid _ := KEY.out false (by simp [ipB, hs])
      clear KEY
      go_wp2
      go_meet
      exact ⟨_, rfl, HK.out⟩
    | true =>
      rw [hs] at c5
      cases h33 : ((s.proto : Int) == 33) with
      | true =>
        have HK : Hid _ := KEY.out true (by simp [ipB, hs, natbeq, h33])
        clear KEY
        go_wp2
        go_meet
        exact ⟨_, rfl, HK.out⟩
      | false =>
        cases h87 : ((s.proto : Int) == 87) with
        | true =>
          have HK : Hid _ := KEY.out true (by simp [ipB, hs, natbeq, h33, h87])
          clear KEY
          go_wp2
          go_meet
          exact ⟨_, rfl, HK.out⟩
        | false =>
          have HK : Hid _ := KEY.out false (by simp [ipB, hs, natbeq, h33, h87])
          clear KEY
          go_wp2
          go_meet
          exact ⟨_, rfl, HK.out⟩
  case rest =>
  obtain ⟨E, rfl, HQ⟩ := hcut
  clear KEY c5 c6
  have hmf : ∀ (fn : Fn) (first cap : Array Value) (w : World), (Instr.makeFunc fn first cap).run Try.prog w = .ok (.func fn first cap) w := fun _ _ _ _ => rfl
  go_upto_region 4 with fail
  have FA := VAt.alloc wc 35 (rowA B C D E)
  have K4 := World.grownBy_alloc wc (.cells (rowA B C D E) 35) none
  have RW : Hid (RowQ (wc.alloc (.cells (rowA B C D E) 35)) wc.heap.size B C D E) := fun q hq => by
    rw [FA.cell q]
    exact rowA_at B C D E q hq
  have HQ4 : Hid (QI B C D E l s a ca (wc.alloc (.cells (rowA B C D E) 35)) ∧ w.grownBy (wc.alloc (.cells (rowA B C D E) 35)) none) := ⟨HQ.out.1.kept K4, grown_trans HQ.out.2 K4⟩
  rw [show wc.alloc (.cells #[.func (.func 45) #[] #[.pointer (some ⟨C, 0, none⟩), .pointer (some ⟨B, 0, none⟩)], .func (.func 46) #[] #[.pointer (some ⟨C, 0, none⟩), .pointer (some ⟨B, 0, none⟩)], .func (.func 48) #[] #[.pointer (some ⟨C, 0, none⟩)], .func (.func 49) #[] #[.pointer (some ⟨C, 0, none⟩), .pointer (some ⟨B, 0, none⟩)], .func (.func 50) #[] #[.pointer (some ⟨D, 0, none⟩), .pointer (some ⟨C, 0, none⟩)], .func (.func 51) #[] #[.pointer (some ⟨D, 0, none⟩), .pointer (some ⟨C, 0, none⟩)], .func (.func 53) #[] #[.pointer (some ⟨E, 0, none⟩), .pointer (some ⟨C, 0, none⟩)], .func (.func 55) #[] #[.pointer (some ⟨C, 0, none⟩)], .func (.func 56) #[] #[.pointer (some ⟨C, 0, none⟩)], .func (.func 57) #[] #[.pointer (some ⟨C, 0, none⟩)], .func (.func 58) #[] #[.pointer (some ⟨C, 0, none⟩)], .func (.func 59) #[] #[.pointer (some ⟨C, 0, none⟩), .pointer (some ⟨B, 0, none⟩)]] 35) = wc.alloc (.cells (rowA B C D E) 35) from rfl]
  clear FA K4 HQ
  generalize wc.alloc (.cells (rowA B C D E) 35) = w4 at *
  generalize wc.heap.size = P at *
  clear wc
  go_loopw [36] (fun i wr => ∃ k : Nat, k ≤ 12 ∧ i = .int .i64 k ∧ Hid (∀ q, q < k → wqB l s q = false) ∧ w4.grownBy wr none) (fun i _ => 12 - (intOf i).toNat)
  case atStart => exact ⟨0, Nat.zero_le _, rfl, fun q hq => absurd hq (by omega), World.grownBy.refl _ _⟩
  case round =>
    obtain ⟨k, hk, rfl, HN, K⟩ := hrel
    by_cases hlt : k < 12
    · have hl6 : (k : Int) < 12 := by omega
      have r1 := (RW.out.kept K) k hlt
      have he := wqN_enters k
      have cS := wq_any k hlt B C D E l s a ca wr (HQ4.out.1.kept K)
      have HH : Hid ((wqB l s k = true → wrongB l s = true) ∧ (wqB l s k = false → ∀ q, q < k + 1 → wqB l s q = false)) := ⟨fun h => wrong_hit hlt h, fun h q hq => by
        by_cases e : q = k
        · rw [e]; exact h
        · exact HN.out q (by omega)⟩
      generalize wqN k = fn at *
      generalize wqC B C D E k = lb at *
      generalize wqB l s k = yes at *
      cases hy : yes with
      | true =>
        subst hy
        have HT : Hid (r = true) := by show r = true; rw [← HR.out]; exact HH.out.1 rfl
        go_wp2_with (go_at_fn fn; refine cS.mono ?_; rintro e w5 ⟨rfl, K5⟩)
        go_ret
        exact ⟨ret_bool HT.out.symm, grown_trans HQ4.out.2 (grown_trans K K5)⟩
      | false =>
        subst hy
        have HH2 : Hid (∀ q, q < k + 1 → wqB l s q = false) := HH.out.2 rfl
        go_wp2_with (go_at_fn fn; refine cS.mono ?_; rintro e w5 ⟨rfl, K5⟩)
        go_roundw
        case rel => exact ⟨k + 1, by omega, by go_num, HH2, grown_trans K K5⟩
        case measure => simp [intOf]; omega
    · obtain rfl : k = 12 := by omega
      have HF : Hid (r = false) := by show r = false; rw [← HR.out]; exact wrong_none HN.out
      rw [show ((12 : Nat) : Int) = 12 from rfl]
      go_wp2
      go_ret
      exact ⟨ret_bool HF.out.symm, grown_trans HQ4.out.2 K⟩

end Go.Proofs.Ytfjjmeanmlimoaa
