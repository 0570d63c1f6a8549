import Derived.Test.YtklipelnjgpnjaaGreatDoorSPsM
set_option maxHeartbeats 64000000
set_option maxRecDepth 100000
namespace Go.Proofs.YtklipelnjgpnjaaGreatDoor
open Go.RowKit
theorem aE8 (x : List UInt8) : D7 x ≤ 13 := by
 have key : ∀ {p : Prop} [Decidable p] {a b : Nat}, a ≤ 13 → b ≤ 13 → (if p then a else b) ≤ 13 := fun {p} _ {a b} ha hb => by split <;> assumption
 unfold D7
 exact key (by decide) (key (by decide) (key (by decide) (key (by decide) (key (by decide) (key (by decide) (key (by decide) (key (by decide) (key (by decide) (key (by decide) (key (by decide) (key (by decide) (key (by decide) (by decide)))))))))))))

section
variable {c : PC} {w : World} {i nest bud : Nat} {vt vp : Value} {ts : List Tk} {ns : List (Nd × Nat)}
theorem aG6 (h : PS c w i vt vp ts nest bud ns) (hof : D7 (hdT ts).text = 0) :
  Calls Tryz.prog 228 #[.pointer (some ⟨c.g, 0, none⟩)] w (o6 c w vt vp nest bud ns (.error (a0d ts))) := by
 have HP : Hid (PS c w i vt vp ts nest bud ns) := h
 have CN := I1 h
 unfold tkC at CN
 have HF2 := fun k p x n W => (T1 k p x n W).2.2.1
 have HNO : Hid (∀ W, Calls Tryz.prog 233 #[str (hdT ts).text] W fun e w' => e = .returned (.int .i64 0) ∧ W = w') := fun W => by
  have := a0O (hdT ts).text W
  rw [hof] at this
  exact this
 clear h hof
 go_enter Tryz.func228, Tryz.ntmps228
 go_wp2_with fail
 refine CN.mono ?_
 rintro e w1 ⟨rfl, G1⟩
 clear CN
 go_wp2_with fail
 refine (HNO.out w1).mono ?_
 rintro e w2 ⟨rfl, rfl⟩
 clear HNO
 have CG := a3x (HP.out.keep G1)
 go_wp2_with fail
 refine CG.mono ?_
 rintro e wz ⟨rfl, G⟩
 go_wp2
 exact ⟨rfl, rfl, GB.non (d3 G1 G)⟩
theorem aF6 (rec : Nat → List Tk → Out) (HO : a1b c rec) (h : PS c w i vt vp ts nest bud ns) (ans : Out) (hans : (if D7 (hdT ts).text = 0 then .error (a0d ts) else M1 rec nest (D7 (hdT ts).text) (hdT ts).pos ts.tail) = ans) (hne : ans ≠ .error exP) :
  Calls Tryz.prog 228 #[.pointer (some ⟨c.g, 0, none⟩)] w (o6 c w vt vp nest bud ns ans) := by
 obtain ⟨of, hof⟩ : ∃ o, D7 (hdT ts).text = o := ⟨_, rfl⟩
 have h13 : of ≤ 13 := by rw [← hof]; exact aE8 _
 rw [hof] at hans
 by_cases h0 : of = 0
 ·rw [if_pos h0] at hans
  rw [← hans]
  exact aG6 h (hof.trans h0)
 rw [if_neg h0] at hans
 have hk : (hdT ts).kind ≠ 0 := by
  have hn : D7 (hdT ts).text ≠ 0 := by rw [hof]; exact h0
  have := (a9O (rec := rec) (nest := nest) h.good.hd hn).2
  omega
 have hG : TkG (hdT ts.tail) := (h.good.tail hk).hd
 cases hb : isB ts.tail [91] with
 | true =>
  by_cases h13' : of = 13
  ·have : ans = .ok ([(a0e of, (hdT ts).pos)], ts.tail) := by
    rw [← hans, M1, if_neg (fun h => h.2 h13'), if_neg (by omega), if_neg (by omega), if_neg (by omega)]
    rfl
   rw [this]
   exact a9u h of hof h0 h13 hk h13'
  ·exact aF9 h of hof h0 h13 hk rec HO h13' hb ans hans hne
 | false =>
  rw [M1, if_neg (fun h => by rw [hb] at h; exact absurd h.1 (by simp))] at hans
  by_cases h1 : of = 1
  ·rw [if_pos h1, a69] at hans
   rw [← hans]
   exact aG5 h of hof h0 h13 hk h1 hb
  rw [if_neg h1] at hans
  by_cases h2 : of = 2 ∨ of = 3
  ·cases hp : isB ts.tail D5 with
   | true =>
    rw [if_pos ⟨h2, hp⟩] at hans
    rcases h2 with h2 | h2
    ·exact aG0 h of hof h0 h13 hk h2 hb hp ans hans
    ·exact aG1 h of hof h0 h13 hk h2 hb hp ans hans
   | false =>
    have : ans = .ok ([(a0e of, (hdT ts).pos)], ts.tail) := by
     rw [← hans, if_neg (fun h => by rw [hp] at h; exact absurd h.2 (by simp)), if_neg (by omega)]
     rfl
    rw [this]
    rcases h2 with h2 | h2
    ·exact aF7 h of hof h0 h13 hk h2 hb hp
    ·exact aF8 h of hof h0 h13 hk h2 hb hp
  rw [if_neg (fun h => h2 h.1)] at hans
  by_cases h4 : of = 4 ∨ of = 5
  ·cases hp : decide ((hdT ts.tail).text ∈ a0v) with
   | true =>
    rw [if_pos ⟨h4, (ac0 hG).1 hp⟩, a0n, aW0 h0] at hans
    rcases h4 with h4 | h4
    ·exact aG3 h of hof h0 h13 hk h4 hb hp ans hans
    ·exact aG4 h of hof h0 h13 hk h4 hb hp ans hans
   | false =>
    have : ans = .ok ([(a0e of, (hdT ts).pos)], ts.tail) := by
     rw [← hans, if_neg (fun h => by rw [(ac0 hG).2 h.2] at hp; exact absurd hp (by simp))]
     rfl
    rw [this]
    rcases h4 with h4 | h4
    ·exact aG7 h of hof h0 h13 hk h4 hb hp
    ·exact aG8 h of hof h0 h13 hk h4 hb hp
  rw [if_neg (fun h => h4 h.1)] at hans
  have e : ans = .ok ([(a0e of, (hdT ts).pos)], ts.tail) := hans.symm
  rw [e]
  by_cases h13' : of = 13
  ·exact a9u h of hof h0 h13 hk h13'
  ·exact aG2 h of hof h0 h13 hk h13' hb (by omega)

end
end Go.Proofs.YtklipelnjgpnjaaGreatDoor
