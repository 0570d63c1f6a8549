import Derived.Test.YtlfmddjppejmaaaGreatDoorqPsM
set_option maxHeartbeats 64000000
set_option maxRecDepth 100000
namespace Go.Proofs.YtlfmddjppejmaaaGreatDoor
open Go.RowKit
theorem a7L (x : List UInt8) : l9 x ≤ 13 := by
 have key : ∀ {p : Prop} [Decidable p] {a b : Nat}, a ≤ 13 → b ≤ 13 → (if p then a else b) ≤ 13 := fun {p} _ {a b} ha hb => by split <;> assumption
 unfold l9
 exact key (by decide) (key (by decide) (key (by decide) (key (by decide) (key (by decide) (key (by decide) (key (by decide) (key (by decide) (key (by decide) (key (by decide) (key (by decide) (key (by decide) (key (by decide) (by decide)))))))))))))

section
variable {c : PC} {w : World} {i nest bud : Nat} {vt vp : Value} {ts : List Tk} {ns : List (Nd × Nat)}
theorem a81 (h : PS c w i vt vp ts nest bud ns) (hof : l9 (hdT ts).text = 0) :
  Calls Tryz.prog 119 #[.pointer (some ⟨c.g, 0, none⟩)] w (l6 c w vt vp nest bud ns (.error (M4 ts))) := by
 have HP : Hid (PS c w i vt vp ts nest bud ns) := h
 have CN := x9 h
 unfold tkC at CN
 have HF2 := fun k p x n W => (o8 k p x n W).2.2.1
 have HNO : Hid (∀ W, Calls Tryz.prog 124 #[str (hdT ts).text] W fun e w' => e = .returned (.int .i64 0) ∧ W = w') := fun W => by
  have := T0 (hdT ts).text W
  rw [hof] at this
  exact this
 clear h hof
 go_enter Tryz.func119, Tryz.ntmps119
 go_wp2_with fail
 refine CN.mono ?_
 rintro e w1 ⟨rfl, G1⟩
 clear CN
 go_wp2_with fail
 refine (HNO.out w1).mono ?_
 rintro e w2 ⟨rfl, rfl⟩
 clear HNO
 have CG := a0Y (HP.out.keep G1)
 go_wp2_with fail
 refine CG.mono ?_
 rintro e wz ⟨rfl, G⟩
 go_wp2
 exact ⟨rfl, rfl, GB.non (d5 G1 G)⟩
theorem a7Q (rec : Nat → List Tk → Out) (HO : U4 c rec) (h : PS c w i vt vp ts nest bud ns) (ans : Out) (hans : (if l9 (hdT ts).text = 0 then .error (M4 ts) else N7 rec nest (l9 (hdT ts).text) (hdT ts).pos ts.tail) = ans) (hne : ans ≠ .error exP) :
  Calls Tryz.prog 119 #[.pointer (some ⟨c.g, 0, none⟩)] w (l6 c w vt vp nest bud ns ans) := by
 obtain ⟨of, hof⟩ : ∃ o, l9 (hdT ts).text = o := ⟨_, rfl⟩
 have h13 : of ≤ 13 := by rw [← hof]; exact a7L _
 rw [hof] at hans
 by_cases h0 : of = 0
 ·rw [if_pos h0] at hans
  rw [← hans]
  exact a81 h (hof.trans h0)
 rw [if_neg h0] at hans
 have hk : (hdT ts).kind ≠ 0 := by
  have hn : l9 (hdT ts).text ≠ 0 := by rw [hof]; exact h0
  have := (a4T (rec := rec) (nest := nest) h.good.hd hn).2
  omega
 have hG : TkG (hdT ts.tail) := (h.good.tail hk).hd
 cases hb : isB ts.tail [91] with
 | true =>
  by_cases h13' : of = 13
  ·have : ans = .ok ([(I8 of, (hdT ts).pos)], ts.tail) := by
    rw [← hans, N7, if_neg (fun h => h.2 h13'), if_neg (by omega), if_neg (by omega), if_neg (by omega)]
    rfl
   rw [this]
   exact a4z h of hof h0 h13 hk h13'
  ·exact a7T h of hof h0 h13 hk rec HO h13' hb ans hans hne
 | false =>
  rw [N7, if_neg (fun h => by rw [hb] at h; exact absurd h.1 (by simp))] at hans
  by_cases h1 : of = 1
  ·rw [if_pos h1, a2n] at hans
   rw [← hans]
   exact a7Z h of hof h0 h13 hk h1 hb
  rw [if_neg h1] at hans
  by_cases h2 : of = 2 ∨ of = 3
  ·cases hp : isB ts.tail q7 with
   | true =>
    rw [if_pos ⟨h2, hp⟩] at hans
    rcases h2 with h2 | h2
    ·exact a7U h of hof h0 h13 hk h2 hb hp ans hans
    ·exact a7V h of hof h0 h13 hk h2 hb hp ans hans
   | false =>
    have : ans = .ok ([(I8 of, (hdT ts).pos)], ts.tail) := by
     rw [← hans, if_neg (fun h => by rw [hp] at h; exact absurd h.2 (by simp)), if_neg (by omega)]
     rfl
    rw [this]
    rcases h2 with h2 | h2
    ·exact a7R h of hof h0 h13 hk h2 hb hp
    ·exact a7S h of hof h0 h13 hk h2 hb hp
  rw [if_neg (fun h => h2 h.1)] at hans
  by_cases h4 : of = 4 ∨ of = 5
  ·cases hp : decide ((hdT ts.tail).text ∈ N9) with
   | true =>
    rw [if_pos ⟨h4, (a5l hG).1 hp⟩, Z9, af1 h0] at hans
    rcases h4 with h4 | h4
    ·exact a7X h of hof h0 h13 hk h4 hb hp ans hans
    ·exact a7Y h of hof h0 h13 hk h4 hb hp ans hans
   | false =>
    have : ans = .ok ([(I8 of, (hdT ts).pos)], ts.tail) := by
     rw [← hans, if_neg (fun h => by rw [(a5l hG).2 h.2] at hp; exact absurd hp (by simp))]
     rfl
    rw [this]
    rcases h4 with h4 | h4
    ·exact a82 h of hof h0 h13 hk h4 hb hp
    ·exact a83 h of hof h0 h13 hk h4 hb hp
  rw [if_neg (fun h => h4 h.1)] at hans
  have e : ans = .ok ([(I8 of, (hdT ts).pos)], ts.tail) := hans.symm
  rw [e]
  by_cases h13' : of = 13
  ·exact a4z h of hof h0 h13 hk h13'
  ·exact a7W h of hof h0 h13 hk h13' hb (by omega)

end
end Go.Proofs.YtlfmddjppejmaaaGreatDoor
