import Derived.Test.YtklipelnjgpnjaaGreatDoorNPsM
set_option maxHeartbeats 64000000
set_option maxRecDepth 100000
namespace Go.Proofs.YtklipelnjgpnjaaGreatDoor
open Go.RowKit
theorem aC7 (x : List UInt8) : D5 x ≤ 13 := by
 have key : ∀ {p : Prop} [Decidable p] {a b : Nat}, a ≤ 13 → b ≤ 13 → (if p then a else b) ≤ 13 := fun {p} _ {a b} ha hb => by split <;> assumption
 unfold D5
 exact key (by decide) (key (by decide) (key (by decide) (key (by decide) (key (by decide) (key (by decide) (key (by decide) (key (by decide) (key (by decide) (key (by decide) (key (by decide) (key (by decide) (key (by decide) (by decide)))))))))))))

section
variable {c : PC} {w : World} {i nest bud : Nat} {vt vp : Value} {ts : List Tk} {ns : List (Nd × Nat)}
theorem aE4 (h : PS c w i vt vp ts nest bud ns) (hof : D5 (hdT ts).text = 0) :
  Calls Tryz.prog 228 #[.pointer (some ⟨c.g, 0, none⟩)] w (l9 c w vt vp nest bud ns (.error (W9 ts))) := by
 have HP : Hid (PS c w i vt vp ts nest bud ns) := h
 have CN := D7 h
 unfold tkC at CN
 have HF2 := fun k p x n W => (N6 k p x n W).2.2.1
 have HNO : Hid (∀ W, Calls Tryz.prog 233 #[str (hdT ts).text] W fun e w' => e = .returned (.int .i64 0) ∧ W = w') := fun W => by
  have := a0v (hdT ts).text W
  rw [hof] at this
  exact this
 clear h hof
 go_enter Tryz.func228, Tryz.ntmps228
 go_wp2_with fail
 refine CN.mono ?_
 rintro e w1 ⟨rfl, G1⟩
 clear CN
 go_wp2_with fail
 refine (HNO.out w1).mono ?_
 rintro e w2 ⟨rfl, rfl⟩
 clear HNO
 have CG := a3f (HP.out.keep G1)
 go_wp2_with fail
 refine CG.mono ?_
 rintro e wz ⟨rfl, G⟩
 go_wp2
 exact ⟨rfl, rfl, GB.non (d3 G1 G)⟩
theorem aD4 (rec : Nat → List Tk → Out) (HO : a0T c rec) (h : PS c w i vt vp ts nest bud ns) (ans : Out) (hans : (if D5 (hdT ts).text = 0 then .error (W9 ts) else T2 rec nest (D5 (hdT ts).text) (hdT ts).pos ts.tail) = ans) (hne : ans ≠ .error exP) :
  Calls Tryz.prog 228 #[.pointer (some ⟨c.g, 0, none⟩)] w (l9 c w vt vp nest bud ns ans) := by
 obtain ⟨of, hof⟩ : ∃ o, D5 (hdT ts).text = o := ⟨_, rfl⟩
 have h13 : of ≤ 13 := by rw [← hof]; exact aC7 _
 rw [hof] at hans
 by_cases h0 : of = 0
 ·rw [if_pos h0] at hans
  rw [← hans]
  exact aE4 h (hof.trans h0)
 rw [if_neg h0] at hans
 have hk : (hdT ts).kind ≠ 0 := by
  have hn : D5 (hdT ts).text ≠ 0 := by rw [hof]; exact h0
  have := (a9q (rec := rec) (nest := nest) h.good.hd hn).2
  omega
 have hG : TkG (hdT ts.tail) := (h.good.tail hk).hd
 cases hb : isB ts.tail [91] with
 | true =>
  by_cases h13' : of = 13
  ·have : ans = .ok ([(Z0 of, (hdT ts).pos)], ts.tail) := by
    rw [← hans, T2, if_neg (fun h => h.2 h13'), if_neg (by omega), if_neg (by omega), if_neg (by omega)]
    rfl
   rw [this]
   exact a93 h of hof h0 h13 hk h13'
  ·exact aD7 h of hof h0 h13 hk rec HO h13' hb ans hans hne
 | false =>
  rw [T2, if_neg (fun h => by rw [hb] at h; exact absurd h.1 (by simp))] at hans
  by_cases h1 : of = 1
  ·rw [if_pos h1, a5A] at hans
   rw [← hans]
   exact aE3 h of hof h0 h13 hk h1 hb
  rw [if_neg h1] at hans
  by_cases h2 : of = 2 ∨ of = 3
  ·cases hp : isB ts.tail J2 with
   | true =>
    rw [if_pos ⟨h2, hp⟩] at hans
    rcases h2 with h2 | h2
    ·exact aD8 h of hof h0 h13 hk h2 hb hp ans hans
    ·exact aD9 h of hof h0 h13 hk h2 hb hp ans hans
   | false =>
    have : ans = .ok ([(Z0 of, (hdT ts).pos)], ts.tail) := by
     rw [← hans, if_neg (fun h => by rw [hp] at h; exact absurd h.2 (by simp)), if_neg (by omega)]
     rfl
    rw [this]
    rcases h2 with h2 | h2
    ·exact aD5 h of hof h0 h13 hk h2 hb hp
    ·exact aD6 h of hof h0 h13 hk h2 hb hp
  rw [if_neg (fun h => h2 h.1)] at hans
  by_cases h4 : of = 4 ∨ of = 5
  ·cases hp : decide ((hdT ts.tail).text ∈ a0b) with
   | true =>
    rw [if_pos ⟨h4, (aa0 hG).1 hp⟩, a1i, aT5 h0] at hans
    rcases h4 with h4 | h4
    ·exact aE1 h of hof h0 h13 hk h4 hb hp ans hans
    ·exact aE2 h of hof h0 h13 hk h4 hb hp ans hans
   | false =>
    have : ans = .ok ([(Z0 of, (hdT ts).pos)], ts.tail) := by
     rw [← hans, if_neg (fun h => by rw [(aa0 hG).2 h.2] at hp; exact absurd hp (by simp))]
     rfl
    rw [this]
    rcases h4 with h4 | h4
    ·exact aE5 h of hof h0 h13 hk h4 hb hp
    ·exact aE6 h of hof h0 h13 hk h4 hb hp
  rw [if_neg (fun h => h4 h.1)] at hans
  have e : ans = .ok ([(Z0 of, (hdT ts).pos)], ts.tail) := hans.symm
  rw [e]
  by_cases h13' : of = 13
  ·exact a93 h of hof h0 h13 hk h13'
  ·exact aE0 h of hof h0 h13 hk h13' hb (by omega)

end
end Go.Proofs.YtklipelnjgpnjaaGreatDoor
