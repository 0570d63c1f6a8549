import Derived.Test.YtghbbephhoniaaaGreatDoorPsM
namespace Go.Proofs.YtghbbephhoniaaaGreatDoor
open Go.RowKit
set_option maxRecDepth 100000
theorem nameN_le (x : List UInt8) : nameN x ≤ 13 := by
 have key : ∀ {p : Prop} [Decidable p] {a b : Nat}, a ≤ 13 → b ≤ 13 → (if p then a else b) ≤ 13 := fun {p} _ {a b} ha hb => by split <;> assumption
 unfold nameN
 exact key (by decide) (key (by decide) (key (by decide) (key (by decide) (key (by decide) (key (by decide) (key (by decide) (key (by decide) (key (by decide) (key (by decide) (key (by decide) (key (by decide) (key (by decide) (by decide)))))))))))))

section
variable {c : PC} {w : World} {i nest bud : Nat} {vt vp : Value} {ts : List Tk} {ns : List (Nd × Nat)}
set_option maxHeartbeats 4000000 in
theorem named_stuck (h : PS c w i vt vp ts nest bud ns) (hof : nameN (hdT ts).text = 0) :
  Calls Tryz.prog 117 #[.pointer (some ⟨c.g, 0, none⟩)] w (RunP c w vt vp nest bud ns (.error (stuckE ts))) := by
 have HP : Hid (PS c w i vt vp ts nest bud ns) := h
 have CN := rnext_any h
 unfold tkC at CN
 have HF2 := fun k p x n W => (fld_tok k p x n W).2.2.1
 have HNO : Hid (∀ W, Calls Tryz.prog 122 #[str (hdT ts).text] W fun e w' => e = .returned (.int .i64 0) ∧ W = w') := fun W => by
  have := nameOf_any (hdT ts).text W
  rw [hof] at this
  exact this
 clear h hof
 go_enter Tryz.func117, Tryz.ntmps117
 go_wp2_with fail
 refine CN.mono ?_
 rintro e w1 ⟨rfl, G1⟩
 clear CN
 go_wp2_with fail
 refine (HNO.out w1).mono ?_
 rintro e w2 ⟨rfl, rfl⟩
 clear HNO
 have CG := stuck_any (HP.out.keep G1)
 go_wp2_with fail
 refine CG.mono ?_
 rintro e wz ⟨rfl, G⟩
 go_wp2
 exact ⟨rfl, rfl, GB.non (grown_trans G1 G)⟩
theorem named_any (rec : Nat → List Tk → Out) (HO : OrOk c rec) (h : PS c w i vt vp ts nest bud ns) (ans : Out) (hans : (if nameN (hdT ts).text = 0 then .error (stuckE ts) else nameF rec nest (nameN (hdT ts).text) (hdT ts).pos ts.tail) = ans) (hne : ans ≠ .error exP) :
  Calls Tryz.prog 117 #[.pointer (some ⟨c.g, 0, none⟩)] w (RunP c w vt vp nest bud ns ans) := by
 obtain ⟨of, hof⟩ : ∃ o, nameN (hdT ts).text = o := ⟨_, rfl⟩
 have h13 : of ≤ 13 := by rw [← hof]; exact nameN_le _
 rw [hof] at hans
 by_cases h0 : of = 0
 ·rw [if_pos h0] at hans
  rw [← hans]
  exact named_stuck h (hof.trans h0)
 rw [if_neg h0] at hans
 have hk : (hdT ts).kind ≠ 0 := by
  have hn : nameN (hdT ts).text ≠ 0 := by rw [hof]; exact h0
  have := (part_name (rec := rec) (nest := nest) h.good.hd hn).2
  omega
 have hG : TkG (hdT ts.tail) := (h.good.tail hk).hd
 cases hb : isB ts.tail [91] with
 | true =>
  by_cases h13' : of = 13
  ·have : ans = .ok ([(wordN of, (hdT ts).pos)], ts.tail) := by
    rw [← hans, nameF, if_neg (fun h => h.2 h13'), if_neg (by omega), if_neg (by omega), if_neg (by omega)]
    rfl
   rw [this]
   exact named_mp h of hof h0 h13 hk h13'
  ·exact named_load h of hof h0 h13 hk rec HO h13' hb ans hans hne
 | false =>
  rw [nameF, if_neg (fun h => by rw [hb] at h; exact absurd h.1 (by simp))] at hans
  by_cases h1 : of = 1
  ·rw [if_pos h1, fail_stuck] at hans
   rw [← hans]
   exact named_ppp h of hof h0 h13 hk h1 hb
  rw [if_neg h1] at hans
  by_cases h2 : of = 2 ∨ of = 3
  ·cases hp : isB ts.tail wProto with
   | true =>
    rw [if_pos ⟨h2, hp⟩] at hans
    rcases h2 with h2 | h2
    ·exact named_next2 h of hof h0 h13 hk h2 hb hp ans hans
    ·exact named_next3 h of hof h0 h13 hk h2 hb hp ans hans
   | false =>
    have : ans = .ok ([(wordN of, (hdT ts).pos)], ts.tail) := by
     rw [← hans, if_neg (fun h => by rw [hp] at h; exact absurd h.2 (by simp)), if_neg (by omega)]
     rfl
    rw [this]
    rcases h2 with h2 | h2
    ·exact named_ip2 h of hof h0 h13 hk h2 hb hp
    ·exact named_ip3 h of hof h0 h13 hk h2 hb hp
  rw [if_neg (fun h => h2 h.1)] at hans
  by_cases h4 : of = 4 ∨ of = 5
  ·cases hp : decide ((hdT ts.tail).text ∈ sidesL) with
   | true =>
    rw [if_pos ⟨h4, (sides_is hG).1 hp⟩, sidedV, sided_port h0] at hans
    rcases h4 with h4 | h4
    ·exact named_port4 h of hof h0 h13 hk h4 hb hp ans hans
    ·exact named_port5 h of hof h0 h13 hk h4 hb hp ans hans
   | false =>
    have : ans = .ok ([(wordN of, (hdT ts).pos)], ts.tail) := by
     rw [← hans, if_neg (fun h => by rw [(sides_is hG).2 h.2] at hp; exact absurd hp (by simp))]
     rfl
    rw [this]
    rcases h4 with h4 | h4
    ·exact named_tcp4 h of hof h0 h13 hk h4 hb hp
    ·exact named_tcp5 h of hof h0 h13 hk h4 hb hp
  rw [if_neg (fun h => h4 h.1)] at hans
  have e : ans = .ok ([(wordN of, (hdT ts).pos)], ts.tail) := hans.symm
  rw [e]
  by_cases h13' : of = 13
  ·exact named_mp h of hof h0 h13 hk h13'
  ·exact named_other h of hof h0 h13 hk h13' hb (by omega)

end
end Go.Proofs.YtghbbephhoniaaaGreatDoor
