/-
 For every list of nodes (of such size as the form itself says of it) riddlelaw13.ShowNeeds returns true and leaves what was there as it was: no condition of ours.
-/
import Derived.Test.YtklipelnjgpnjaaGreatDoorNAb
import Derived.Test.YtklipelnjgpnjaaGreatDoorLotN35
import Derived.Test.YtklipelnjgpnjaaGreatDoorLotN46
import Derived.Deep.DeepCutAuto
import Derived.Deep.QuietTactic
import Derived.BigQuiet
namespace Go.Proofs.YtklipelnjgpnjaaGreatDoor
open Go.ChangeShapes Go.WideShapes Go.ChangeAt Go.RowKit
set_option maxRecDepth 100000
namespace showNeeds
theorem ba_cat (a b : ByteArray) : sl (a ++ b) = sl a ++ sl b := by simp [sl]
/-- What Show answers: an error, or the text of a tree. -/
theorem said (t : List Ng) (w : World) (TA : j2 w) (hal : t.length * 72 ≤ 140737488351232) (hao : ∀ x ∈ t, x.ok) :
  (∃ (s : ByteArray) (e : Int), e ≠ 0 ∧ ∀ (ao : Option Addr) (cap : Nat) W, w.grownBy W none → CV W ao (p9 t) → Calls Tryz.prog 11 #[.slice ao t.length cap] W fun e' w' => e' = .returned (.tuple #[.string s, .int .i64 e]) ∧ W.grownBy w' none) ∨
  (∃ T : Tr, T.Wf ∧ T.flat = t ∧ (J4 t).2 = 0 ∧ (T.txt false).2 ≤ 200 ∧ ∀ (ao : Option Addr) (cap : Nat) W, w.grownBy W none → CV W ao (p9 t) → Calls Tryz.prog 11 #[.slice ao t.length cap] W fun e' w' => e' = .returned (.tuple #[.string ⟨(T.txt false).1.toArray⟩, .int .i64 0]) ∧ W.grownBy w' none) := by
 have hn : ∀ x ∈ t, x.n ≤ 4294967295 := fun x hx => (hao x hx).1
 have hmm : ∀ x ∈ t, x.m ≤ 4294967295 := fun x hx => (hao x hx).2.1
 by_cases hok : (J4 t).2 = 0
 ·obtain ⟨U, hU, hf⟩ := aq6 hok
  have CS : ∀ (ao : Option Addr) (cap : Nat) W, w.grownBy W none → CV W ao (p9 t) → Calls Tryz.prog 11 #[.slice ao t.length cap] W fun e w' => e = .returned (a0x false U) ∧ W.grownBy w' none := fun ao cap W G C => a9S ao cap t U hU hf hok hn hmm W (TA.grown G) C
  unfold a0x at CS
  by_cases hd : 200 < (U.txt false).2
  ·rw [if_pos hd] at CS
   exact .inl ⟨_, 131, by decide, CS⟩
  ·rw [if_neg hd] at CS
   exact .inr ⟨U, hU, hf, hok, by omega, CS⟩
 ·exact .inl ⟨⟨#[]⟩, 130, by decide, fun ao cap W _ C => aS5 ao cap t hok (by omega) hn W C⟩
set_option maxRecDepth 100000 in
set_option maxHeartbeats 16000000 in
theorem walk (a : Option Addr) (ca : Nat) (t : List Ng) (w : World) (hA : CV w a (p9 t)) (ha0 : a = none → ca = 0) (_hac : t.length ≤ ca) (_hax : ca ≤ maxLen) (hal : t.length * 72 ≤ 140737488351232) (hao : ∀ x ∈ t, x.ok) (T : a04 w) :
  Calls Tryz.prog 7 #[.slice a t.length ca] w fun e w' => e = .returned (.bool true) ∧ w.grownBy w' none := by
 have HA : Hid (CV w a (p9 t)) := hA
 have HT : Hid (a04 w) := T
 have HL9 : Hid (t.length ≤ 9223372036854775807) := by show _ ≤ _; omega
 have HAW : Hid (∀ W, w.grownBy W none → Calls Tryz.prog 14 #[] W fun e w' => e = .returned (.bool true) ∧ W.grownBy w' none) := fun W K => ah1 W (T.2.grown K)
 have C1 := as4 a ca t w hA ha0 (by omega)
 have HC1 : Hid (Calls _ _ _ _ _) := C1
 have HOK : Hid (∀ x ∈ t, x.ok) := hao
 have hfi := said t w T.2 hal hao
 clear hA ha0 hao hal T C1
 rcases hfi with ⟨s, e, he, hS⟩ | ⟨U, hU, hf, hok, hd, hS⟩
 ·have HS : Hid (∀ (ao : Option Addr) (cap : Nat) W, w.grownBy W none → CV W ao (p9 t) → Calls Tryz.prog 11 #[.slice ao t.length cap] W fun e' w' => e' = .returned (.tuple #[.string s, .int .i64 e]) ∧ W.grownBy w' none) := hS
  have hb : (e != 0) = true := by rw [bne_iff_ne]; exact he
  clear hS he
  go_enter Tryz.func7, Tryz.ntmps7
  go_wp2_with fail
  refine HC1.out.mono ?_
  rintro x1 w1 ⟨v1, rfl, O1, K1⟩
  obtain ⟨a1, c1, rfl, D1, -⟩ := S5 O1
  have HX : Hid (Calls _ _ _ _ _) := HS.out a1 c1 w1 K1 D1
  have G1 : Hid (w.grownBy w1 none) := K1
  clear O1 D1 K1 HS HC1
  go_wp2_with fail
  refine HX.out.mono ?_
  rintro x2 w2 ⟨rfl, K2⟩
  have G2 : Hid (w.grownBy w2 none) := d3 G1.out K2
  have HX : Hid (Calls _ _ _ _ _) := HAW.out w2 G2.out
  clear K2 G1 HAW
  go_wp2_with fail
  refine HX.out.mono ?_
  rintro x3 w3 ⟨rfl, K3⟩
  go_wp2
  go_ret
  exact ⟨rfl, d3 G2.out K3⟩
 ·have hl := (aq4 hok HOK.out hU hf).2.2.2 false
  have hdec : ∀ x ∈ U.flat, a1F x := by rw [hf]; exact aq3 hok HOK.out
  have HNO : Hid (∀ i k, (U.txt false).1[i]? = some 40 → i + 1 < k → ∀ ns, U2 ((U.txt false).1.take i ++ ((U.txt false).1.take (k - 1)).drop (i + 1) ++ (U.txt false).1.drop k) = .ok ns → ns.map (·.1.g) ≠ t) := fun i k hi hk ns hp => hf ▸ aH7 hU hdec hi hk hp
  have HMO : Hid (∀ i, (U.txt false).1[i]? = some 40 → i + 1 < (U.txt false).1.length) := fun i hi => aH3 hdec hi
  obtain ⟨l, hll⟩ : ∃ l, (U.txt false).1 = l := ⟨_, rfl⟩
  rw [hll] at hS HNO HMO hl
  have HS : Hid (∀ (ao : Option Addr) (cap : Nat) W, w.grownBy W none → CV W ao (p9 t) → Calls Tryz.prog 11 #[.slice ao t.length cap] W fun e' w' => e' = .returned (.tuple #[.string ⟨l.toArray⟩, .int .i64 0]) ∧ W.grownBy w' none) := hS
  clear hS hll hdec hd hok hf hU U
  go_enter Tryz.func7, Tryz.ntmps7
  go_wp2_with fail
  refine HC1.out.mono ?_
  rintro x1 w1 ⟨v1, rfl, O1, K1⟩
  obtain ⟨a1, c1, rfl, D1, -⟩ := S5 O1
  have HX : Hid (Calls _ _ _ _ _) := HS.out a1 c1 w1 K1 D1
  have G1 : Hid (w.grownBy w1 none) := K1
  clear O1 D1 K1 HS HC1
  go_wp2_with fail
  refine HX.out.mono ?_
  rintro x2 w2 ⟨rfl, K2⟩
  have HG2 : Hid (w.grownBy w2 none) := d3 G1.out K2
  clear K2 G1 HX
  by_cases h40 : 40 < t.length
  ·have hdec : (40 : Int) < (t.length : Int) := by omega
   have HX : Hid (Calls _ _ _ _ _) := HAW.out w2 HG2.out
   clear h40 HAW
   go_wp2_with fail
   refine HX.out.mono ?_
   rintro x3 w3 ⟨rfl, K3⟩
   go_wp2
   go_ret
   exact ⟨rfl, d3 HG2.out K3⟩
  have hdec : ¬ (40 : Int) < (t.length : Int) := by omega
  obtain ⟨S, hS⟩ : ∃ S : ByteArray, (⟨l.toArray⟩ : ByteArray) = S := ⟨_, rfl⟩
  rw [hS]
  have hsz : S.size = l.length := by rw [← hS]; simp [ByteArray.size]
  have HSS : Hid ((⟨l.toArray⟩ : ByteArray) = S) := hS
  have HSZ : Hid (S.size = l.length ∧ S.size ≤ 65536) := ⟨hsz, by omega⟩
  clear hS hsz h40
  go_wp2
  go_loopw [5] (fun i wr => ∃ k : Nat, k ≤ S.size ∧ i = .int .i64 (k : Int) ∧ Hid (w.grownBy wr none)) (fun i _ => S.size - (intOf i).toNat)
  case atStart => exact ⟨0, Nat.zero_le _, rfl, HG2.out⟩
  case round =>
   obtain ⟨i, hi, rfl, HR⟩ := hrel
   by_cases hlt : i < S.size
   ·have hl1 : (i : Int) < (S.size : Int) := by omega
    have z1 : (0 : Int) ≤ (i : Int) := by omega
    have hsz2 := HSZ.out.2
    have wi1 : IntKind.i64.wrap ((i : Int) + 1) = (i : Int) + 1 := by rw [IntKind.wrap_i64]; omega
    have hgi : l[i]? = some S[i] := by
     have h1 := HSS.out
     subst h1
     simp [ByteArray.getElem_eq_getElem_data]
    by_cases h40 : S[i] = 40
    ·rw [h40] at hgi
     have n1 : ((S[i].toNat : Int) != 40) = false := by rw [h40]; rfl
     have hmo := HMO.out i hgi
     have HGI : Hid (l[i]? = some 40) := hgi
     rw [← HSZ.out.1] at hmo
     clear hgi h40
     go_upto_region 10 with fail
     go_loopw [6, 7] (fun k d wx => ∃ (kk : Nat) (dd : Int), i + 1 ≤ kk ∧ kk ≤ S.size ∧ k = .int .i64 (kk : Int) ∧ d = .int .i64 dd ∧ (kk = i + 1 → dd = 1) ∧ 0 ≤ dd ∧ dd ≤ kk ∧ Hid (w.grownBy wx none)) (fun k _ _ => S.size - (intOf k).toNat)
     case atStart => exact ⟨i + 1, 1, Nat.le_refl _, by omega, by go_num, rfl, fun _ => rfl, by decide, by omega, HR.out⟩
     case round =>
      obtain ⟨kk, dd, hk1, hk2, rfl, rfl, hk3, hd0, hdk, HR2⟩ := hrel
      by_cases hgo : kk < S.size ∧ 0 < dd
      ·obtain ⟨hkl, hdp⟩ := hgo
       have l1 : (kk : Int) < (S.size : Int) := by omega
       have l2 : (0 : Int) ≤ (kk : Int) := by omega
       have wk1 : IntKind.i64.wrap ((kk : Int) + 1) = (kk : Int) + 1 := by rw [IntKind.wrap_i64]; omega
       have wd1 : IntKind.i64.wrap (dd + 1) = dd + 1 := by rw [IntKind.wrap_i64]; omega
       have wd2 : IntKind.i64.wrap (dd - 1) = dd - 1 := by rw [IntKind.wrap_i64]; omega
       by_cases c40 : ((S[kk].toNat : Int) == 40) = true
       ·have c41 : ((S[kk].toNat : Int) == 41) = false := by
         rw [beq_eq_false_iff_ne]
         have := beq_iff_eq.1 c40
         omega
        go_wp2
        go_roundw
        case rel => exact ⟨kk + 1, dd + 1, by omega, by omega, by go_num, rfl, fun h => (by omega), by omega, by omega, HR2.out⟩
        case measure => simp [intOf]; omega
       ·have c40 : ((S[kk].toNat : Int) == 40) = false := by simpa using c40
        by_cases c41 : ((S[kk].toNat : Int) == 41) = true
        ·go_wp2
         go_roundw
         case rel => exact ⟨kk + 1, dd - 1, by omega, by omega, by go_num, rfl, fun h => (by omega), by omega, by omega, HR2.out⟩
         case measure => simp [intOf]; omega
        ·have c41 : ((S[kk].toNat : Int) == 41) = false := by simpa using c41
         go_wp2
         go_roundw
         case rel => exact ⟨kk + 1, dd, by omega, by omega, by go_num, rfl, fun h => (by omega), by omega, by omega, HR2.out⟩
         case measure => simp [intOf]; omega
      ·have hne : kk ≠ i + 1 := fun h => by
        have := hk3 h
        omega
       obtain ⟨m, rfl⟩ : ∃ m, kk = m + 1 := ⟨kk - 1, by omega⟩
       have HP := aJ9 (S.extract 0 i ++ S.extract (i + 1) m ++ S.extract (m + 1) S.size) (by simp [ByteArray.size_append, ByteArray.size_extract]; omega) (fun x hx => aU9 hx)
       have hX : sl (S.extract 0 i ++ S.extract (i + 1) m ++ S.extract (m + 1) S.size) = l.take i ++ (l.take (m + 1 - 1)).drop (i + 1) ++ l.drop (m + 1) := by
        have h1 : sl S = l := by rw [← HSS.out]; simp [sl]
        rw [ba_cat, ba_cat, a1l, a1l, a1l, h1, List.drop_zero, Nat.sub_zero, Nat.add_sub_cancel, List.drop_take, HSZ.out.1]
        congr 1
        exact List.take_of_length_le (by rw [List.length_drop]; omega)
       have HNX : Hid (∀ ns, U2 (sl (S.extract 0 i ++ S.extract (i + 1) m ++ S.extract (m + 1) S.size)) = .ok ns → ns.map (·.1.g) ≠ t) := fun ns hns => HNO.out i (m + 1) HGI.out (by omega) ns (by rw [← hX]; exact hns)
       have g1 : (i : Int) ≤ (S.size : Int) := by omega
       have g2 : (i : Int) + 1 ≤ (m : Int) := by omega
       have g3 : (m : Int) ≤ (S.size : Int) := by omega
       have g4 : (m : Int) + 1 ≤ (S.size : Int) := by omega
       have g5 : (0 : Int) ≤ (m : Int) := by omega
       have g6 : (0 : Int) ≤ (i : Int) := by omega
       have wm0 : IntKind.i64.wrap (m : Int) = (m : Int) := by rw [IntKind.wrap_i64]; omega
       have g7 : ¬ (i : Int) + 1 < 0 := by omega
       have g8 : ¬ (m : Int) + 1 < 0 := by omega
       have g9 : i + (min m S.size - (i + 1)) ≤ 9223372036854775807 := by omega
       have g10 : i + (min m S.size - (i + 1)) + (S.size - (m + 1)) ≤ 9223372036854775807 := by omega
       have wm1 : IntKind.i64.wrap ((m : Int) + 1 - 1) = (m : Int) := by rw [IntKind.wrap_i64]; omega
       have HX16 : Hid (w.grownBy wr.drew none) := d3 HR2.out (f9 _ 1 none)
       have hcc : (((m : Int) + 1 < (S.size : Int)) ∧ ¬ (0 : Int) < dd) ∨ ¬ ((m : Int) + 1 < (S.size : Int)) := by omega
       clear hgo hX hk3 hd0 hdk
       rcases hcc with ⟨q1, q2⟩ | q1
       all_goals
        go_upto_region 16 with fail
        rcases HP with ⟨c, hc, hP⟩ | ⟨ns, u, hpu, hu, hP⟩
        ·have HPE : Hid (∀ W, a04 W → Calls Tryz.prog 17 #[.string (S.extract 0 i ++ S.extract (i + 1) m ++ S.extract (m + 1) S.size)] W fun e w' => ∃ vt vp p, e = .returned (.tuple #[vt, vp, p, .int .i64 c]) ∧ W.grownBy w' none) := hP
         have hcb : (c == 0) = false := by rw [beq_eq_false_iff_ne]; exact hc
         clear hP hc
         refine wp_region_held_drew (S := fun W => w.grownBy W none) (by kernel_rfl) (HX16.out) (fun hHeld => ?_)
         refine wpT (i := 0) (v := .string S) rfl (Or.inl ⟨by rfl, fun W hW => ?_⟩) hHeld ?_
         ·clear hW
          go_simp
         try simp only [Act.put, a0, a1, a3, a4, a5]
         refine wpT (i := 1) (v := .int .i64 (i : Int)) rfl (Or.inl ⟨by rfl, fun W hW => ?_⟩) hHeld ?_
         ·clear hW
          go_simp
         try simp only [Act.put, a0, a1, a2, a3, a4, a5]
         refine wpT (i := 2) (v := .string (S.extract 0 i)) rfl (Or.inl ⟨by rfl, fun W hW => ?_⟩) hHeld ?_
         ·clear hW
          go_simp
         try simp only [Act.put, a0, a1, a2, a3, a4, a5]
         refine wpT (i := 3) (v := .string S) rfl (Or.inl ⟨by rfl, fun W hW => ?_⟩) hHeld ?_
         ·clear hW
          go_simp
         try simp only [Act.put, a0, a1, a2, a3, a4, a5]
         refine wpT (i := 4) (v := .int .i64 (i : Int)) rfl (Or.inl ⟨by rfl, fun W hW => ?_⟩) hHeld ?_
         ·clear hW
          go_simp
         try simp only [Act.put, a0, a1, a2, a3, a4, a5]
         refine wpT (i := 5) (v := .int .i64 ((i : Int) + 1)) rfl (Or.inl ⟨by rfl, fun W hW => ?_⟩) hHeld ?_
         ·clear hW
          go_simp
         try simp only [Act.put, a0, a1, a2, a3, a4, a5]
         refine wpT (i := 6) (v := .int .i64 ((m : Int) + 1)) rfl (Or.inl ⟨by rfl, fun W hW => ?_⟩) hHeld ?_
         ·clear hW
          go_simp
         try simp only [Act.put, a0, a1, a2, a3, a4, a5]
         refine wpT (i := 7) (v := .int .i64 (m : Int)) rfl (Or.inl ⟨by rfl, fun W hW => ?_⟩) hHeld ?_
         ·clear hW
          go_simp
         try simp only [Act.put, a0, a1, a2, a3, a4, a5]
         refine wpT (i := 8) (v := .string (S.extract (i + 1) m)) rfl (Or.inl ⟨by rfl, fun W hW => ?_⟩) hHeld ?_
         ·clear hW
          go_simp
         try simp only [Act.put, a0, a1, a2, a3, a4, a5]
         refine wpT (i := 9) (v := .string (S.extract 0 i ++ S.extract (i + 1) m)) rfl (Or.inl ⟨by rfl, fun W hW => ?_⟩) hHeld ?_
         ·clear hW
          go_simp
         try simp only [Act.put, a0, a1, a2, a3, a4, a5]
         refine wpT (i := 10) (v := .string S) rfl (Or.inl ⟨by rfl, fun W hW => ?_⟩) hHeld ?_
         ·clear hW
          go_simp
         try simp only [Act.put, a0, a1, a2, a3, a4, a5]
         refine wpT (i := 11) (v := .int .i64 ((m : Int) + 1)) rfl (Or.inl ⟨by rfl, fun W hW => ?_⟩) hHeld ?_
         ·clear hW
          go_simp
         try simp only [Act.put, a0, a1, a2, a3, a4, a5]
         refine wpT (i := 12) (v := .string (S.extract (m + 1) S.size)) rfl (Or.inl ⟨by rfl, fun W hW => ?_⟩) hHeld ?_
         ·clear hW
          go_simp
         try simp only [Act.put, a0, a1, a2, a3, a4, a5]
         refine wpT (i := 13) (v := .string (S.extract 0 i ++ S.extract (i + 1) m ++ S.extract (m + 1) S.size)) rfl (Or.inl ⟨by rfl, fun W hW => ?_⟩) hHeld ?_
         ·clear hW
          go_simp
         try simp only [Act.put, a0, a1, a2, a3, a4, a5]
         refine wpR (rs := [14]) (AllReadyH.cons rfl (fun K hK => ?_) AllReadyH.nil)
         go_simp
         refine (HPE.out _ (HT.out.grown hHeld)).mono ?_
         rintro e7 w7 ⟨vt, vp, vq, rfl, K7⟩
         go_wp2_with fail
         refine hK.out _ _ (d3 hHeld K7) (fun hHeld => ?_)
         clear hK K
         try simp only [Act.put, a0, a1, a2, a3, a4, a5]
         refine wpT (i := 15) (v := .tuple #[vt, vp, vq, .int .i64 c]) rfl (Or.inl ⟨by rfl, fun W hW => ?_⟩) hHeld ?_
         ·clear hW
          go_simp
         try simp only [Act.put, a0, a1, a2, a3, a4, a5]
         refine wpT (i := 16) (v := vt) rfl (Or.inl ⟨by rfl, fun W hW => ?_⟩) hHeld ?_
         ·clear hW
          go_simp
         try simp only [Act.put, a0, a1, a2, a3, a4, a5]
         refine wpT (i := 17) (v := vp) rfl (Or.inl ⟨by rfl, fun W hW => ?_⟩) hHeld ?_
         ·clear hW
          go_simp
         try simp only [Act.put, a0, a1, a2, a3, a4, a5]
         refine wpT (i := 18) (v := vq) rfl (Or.inl ⟨by rfl, fun W hW => ?_⟩) hHeld ?_
         ·clear hW
          go_simp
         try simp only [Act.put, a0, a1, a2, a3, a4, a5]
         refine wpT (i := 19) (v := .int .i64 c) rfl (Or.inl ⟨by rfl, fun W hW => ?_⟩) hHeld ?_
         ·clear hW
          go_simp
         try simp only [Act.put, a0, a1, a2, a3, a4, a5]
         refine wpT (i := 20) (v := vt) rfl (Or.inl ⟨by rfl, fun W hW => ?_⟩) hHeld ?_
         ·clear hW
          go_simp
         try simp only [Act.put, a0, a1, a2, a3, a4, a5]
         refine wpT (i := 21) (v := vp) rfl (Or.inl ⟨by rfl, fun W hW => ?_⟩) hHeld ?_
         ·clear hW
          go_simp
         try simp only [Act.put, a0, a1, a2, a3, a4, a5]
         refine wpT (i := 22) (v := vq) rfl (Or.inl ⟨by rfl, fun W hW => ?_⟩) hHeld ?_
         ·clear hW
          go_simp
         try simp only [Act.put, a0, a1, a2, a3, a4, a5]
         refine wpT (i := 23) (v := .int .i64 c) rfl (Or.inl ⟨by rfl, fun W hW => ?_⟩) hHeld ?_
         ·clear hW
          go_simp
         try simp only [Act.put, a0, a1, a2, a3, a4, a5]
         refine wpAnyH_done (by kernel_rfl) ?_ _
         have HRE : Hid (w.grownBy w7 none) := hHeld
         clear HPE
         go_wp2
         go_roundw
         case rel => exact ⟨i + 1, by omega, by go_num, HRE.out⟩
         case measure => simp [intOf]; omega
        ·have HPK : Hid (∀ W, a04 W → Calls Tryz.prog 17 #[.string (S.extract 0 i ++ S.extract (i + 1) m ++ S.extract (m + 1) S.size)] W fun e w' => ∃ ao cap vp, e = .returned (.tuple #[.slice ao u.length cap, vp, .int .i64 0, .int .i64 0]) ∧ CV w' ao (p9 u) ∧ (ao = none → cap = 0) ∧ W.grownBy w' none) := hP
         have hut : u ≠ t := hu ▸ HNX.out ns hpu
         have huo : ∀ x ∈ u, x.addr.length = 16 := fun x hx => by
          rw [← hu] at hx
          obtain ⟨y, hy, rfl⟩ := List.mem_map.1 hx
          exact ((aJ5 hpu).1 y hy).2.2
         have hul : u.length ≤ 65537 := by rw [← hu, List.length_map]; exact aV0 hpu
         have HUT : Hid (¬ a2J u t) := fun h => hut ((aR1 huo (fun x hx => (HOK.out x hx).2.2)).1 h)
         clear hP hut huo hpu hu ns
         refine wp_region_held_drew (S := fun W => w.grownBy W none) (by kernel_rfl) (HX16.out) (fun hHeld => ?_)
         refine wpT (i := 0) (v := .string S) rfl (Or.inl ⟨by rfl, fun W hW => ?_⟩) hHeld ?_
         ·clear hW
          go_simp
         try simp only [Act.put, a0, a1, a3, a4, a5]
         refine wpT (i := 1) (v := .int .i64 (i : Int)) rfl (Or.inl ⟨by rfl, fun W hW => ?_⟩) hHeld ?_
         ·clear hW
          go_simp
         try simp only [Act.put, a0, a1, a2, a3, a4, a5]
         refine wpT (i := 2) (v := .string (S.extract 0 i)) rfl (Or.inl ⟨by rfl, fun W hW => ?_⟩) hHeld ?_
         ·clear hW
          go_simp
         try simp only [Act.put, a0, a1, a2, a3, a4, a5]
         refine wpT (i := 3) (v := .string S) rfl (Or.inl ⟨by rfl, fun W hW => ?_⟩) hHeld ?_
         ·clear hW
          go_simp
         try simp only [Act.put, a0, a1, a2, a3, a4, a5]
         refine wpT (i := 4) (v := .int .i64 (i : Int)) rfl (Or.inl ⟨by rfl, fun W hW => ?_⟩) hHeld ?_
         ·clear hW
          go_simp
         try simp only [Act.put, a0, a1, a2, a3, a4, a5]
         refine wpT (i := 5) (v := .int .i64 ((i : Int) + 1)) rfl (Or.inl ⟨by rfl, fun W hW => ?_⟩) hHeld ?_
         ·clear hW
          go_simp
         try simp only [Act.put, a0, a1, a2, a3, a4, a5]
         refine wpT (i := 6) (v := .int .i64 ((m : Int) + 1)) rfl (Or.inl ⟨by rfl, fun W hW => ?_⟩) hHeld ?_
         ·clear hW
          go_simp
         try simp only [Act.put, a0, a1, a2, a3, a4, a5]
         refine wpT (i := 7) (v := .int .i64 (m : Int)) rfl (Or.inl ⟨by rfl, fun W hW => ?_⟩) hHeld ?_
         ·clear hW
          go_simp
         try simp only [Act.put, a0, a1, a2, a3, a4, a5]
         refine wpT (i := 8) (v := .string (S.extract (i + 1) m)) rfl (Or.inl ⟨by rfl, fun W hW => ?_⟩) hHeld ?_
         ·clear hW
          go_simp
         try simp only [Act.put, a0, a1, a2, a3, a4, a5]
         refine wpT (i := 9) (v := .string (S.extract 0 i ++ S.extract (i + 1) m)) rfl (Or.inl ⟨by rfl, fun W hW => ?_⟩) hHeld ?_
         ·clear hW
          go_simp
         try simp only [Act.put, a0, a1, a2, a3, a4, a5]
         refine wpT (i := 10) (v := .string S) rfl (Or.inl ⟨by rfl, fun W hW => ?_⟩) hHeld ?_
         ·clear hW
          go_simp
         try simp only [Act.put, a0, a1, a2, a3, a4, a5]
         refine wpT (i := 11) (v := .int .i64 ((m : Int) + 1)) rfl (Or.inl ⟨by rfl, fun W hW => ?_⟩) hHeld ?_
         ·clear hW
          go_simp
         try simp only [Act.put, a0, a1, a2, a3, a4, a5]
         refine wpT (i := 12) (v := .string (S.extract (m + 1) S.size)) rfl (Or.inl ⟨by rfl, fun W hW => ?_⟩) hHeld ?_
         ·clear hW
          go_simp
         try simp only [Act.put, a0, a1, a2, a3, a4, a5]
         refine wpT (i := 13) (v := .string (S.extract 0 i ++ S.extract (i + 1) m ++ S.extract (m + 1) S.size)) rfl (Or.inl ⟨by rfl, fun W hW => ?_⟩) hHeld ?_
         ·clear hW
          go_simp
         try simp only [Act.put, a0, a1, a2, a3, a4, a5]
         refine wpR (rs := [14]) (AllReadyH.cons rfl (fun K hK => ?_) AllReadyH.nil)
         go_simp
         refine (HPK.out _ (HT.out.grown hHeld)).mono ?_
         rintro e7 w7 ⟨ax, cx, vp, rfl, CX, -, K7⟩
         have HCX : Hid (∀ W, w7.grownBy W none → CV W ax (p9 u)) := fun W K => CX.keptNone K
         have HW7 : Hid (w7.grownBy w7 none) := World.grownBy.refl _ _
         clear CX
         go_wp2_with fail
         refine hK.out _ _ (d3 hHeld K7) (fun hHeld => ?_)
         clear hK K
         try simp only [Act.put, a0, a1, a2, a3, a4, a5]
         refine wpT (i := 15) (v := .tuple #[.slice ax u.length cx, vp, .int .i64 0, .int .i64 0]) rfl (Or.inl ⟨by rfl, fun W hW => ?_⟩) hHeld ?_
         ·clear hW
          go_simp
         try simp only [Act.put, a0, a1, a2, a3, a4, a5]
         refine wpT (i := 16) (v := .slice ax u.length cx) rfl (Or.inl ⟨by rfl, fun W hW => ?_⟩) hHeld ?_
         ·clear hW
          go_simp
         try simp only [Act.put, a0, a1, a2, a3, a4, a5]
         refine wpT (i := 17) (v := vp) rfl (Or.inl ⟨by rfl, fun W hW => ?_⟩) hHeld ?_
         ·clear hW
          go_simp
         try simp only [Act.put, a0, a1, a2, a3, a4, a5]
         refine wpT (i := 18) (v := .int .i64 0) rfl (Or.inl ⟨by rfl, fun W hW => ?_⟩) hHeld ?_
         ·clear hW
          go_simp
         try simp only [Act.put, a0, a1, a2, a3, a4, a5]
         refine wpT (i := 19) (v := .int .i64 0) rfl (Or.inl ⟨by rfl, fun W hW => ?_⟩) hHeld ?_
         ·clear hW
          go_simp
         try simp only [Act.put, a0, a1, a2, a3, a4, a5]
         refine wpT (i := 20) (v := .slice ax u.length cx) rfl (Or.inl ⟨by rfl, fun W hW => ?_⟩) hHeld ?_
         ·clear hW
          go_simp
         try simp only [Act.put, a0, a1, a2, a3, a4, a5]
         refine wpT (i := 21) (v := vp) rfl (Or.inl ⟨by rfl, fun W hW => ?_⟩) hHeld ?_
         ·clear hW
          go_simp
         try simp only [Act.put, a0, a1, a2, a3, a4, a5]
         refine wpT (i := 22) (v := .int .i64 0) rfl (Or.inl ⟨by rfl, fun W hW => ?_⟩) hHeld ?_
         ·clear hW
          go_simp
         try simp only [Act.put, a0, a1, a2, a3, a4, a5]
         refine wpT (i := 23) (v := .int .i64 0) rfl (Or.inl ⟨by rfl, fun W hW => ?_⟩) hHeld ?_
         ·clear hW
          go_simp
         try simp only [Act.put, a0, a1, a2, a3, a4, a5]
         refine wpAnyH_done (by kernel_rfl) ?_ _
         have HRE : Hid (w.grownBy w7 none) := hHeld
         have HSM : Hid (Calls _ _ _ _ _) := at7 ax a cx ca u t w7 (HCX.out w7 (World.grownBy.refl _ _)) (HA.out.keptNone HRE.out) (by omega)
         clear HPK HCX
         go_wp2_with fail
         refine HSM.out.mono ?_
         rintro e8 w8 ⟨r8, hr8, rfl, n8, rfl⟩
         obtain rfl : r8 = false := by
          cases r8 with
          | false => rfl
          | true => exact absurd (hr8.1 rfl) HUT.out
         have HRF : Hid (w.grownBy (w7.drewN n8) none) := d3 HRE.out (f9 _ _ none)
         generalize w7.drewN n8 = w8 at *
         clear HSM hr8
         go_wp2
         go_roundw
         case rel => exact ⟨i + 1, by omega, by go_num, HRF.out⟩
         case measure => simp [intOf]; omega
    ·have n1 : ((S[i].toNat : Int) != 40) = true := by
      rw [bne_iff_ne]
      intro h
      apply h40
      have h2 : S[i].toNat = 40 := by omega
      exact UInt8.toNat_inj.1 h2
     clear hgi h40
     go_wp2
     go_roundw
     case rel => exact ⟨i + 1, by omega, by go_num, HR.out⟩
     case measure => simp [intOf]; omega
   ·obtain rfl : i = S.size := by omega
    have hl' : ¬ (S.size : Int) < (S.size : Int) := by omega
    have HX : Hid (Calls _ _ _ _ _) := HAW.out wr HR.out
    clear hlt
    go_wp2_with fail
    refine HX.out.mono ?_
    rintro x3 w3 ⟨rfl, K3⟩
    go_wp2
    go_ret
    exact ⟨rfl, d3 HR.out K3⟩
set_option maxRecDepth 100000 in
theorem lifted (os : Os) (started : os.Started) (H : Type) (enc : TypeId × Value → H) (F : Stop.Interp) :
  ReturnsInHanded {} Tryz.checked os 7 .any ((OpenSpec.ofChange Rows.showNeedsSpec).preRow enc Tryz.prog Tryz.f7 Rows.showNeedsRow.domain false Rows.showNeedsRow.laid) (((OpenSpec.ofChange Rows.showNeedsSpec).at F).post enc Tryz.prog Tryz.f7 false true false false) := by
 have hx : DataW.whole enc Tryz.prog ((a5W os).forCall (fun _ _ => 0) ⟨#[], #[.slice none 0 0], []⟩).memory Tryz.f7.params.toList Rows.showNeedsSpec.vars false (#[.slice none 0 0] : Array Value).toList 8 = some ([.nil], [], []) := by kernel_rfl
 refine returnsInHanded_of_row (C := Tryz.checked) (s := (OpenSpec.ofChange Rows.showNeedsSpec)) own started (by kernel_rfl) Tryz.func7
  (witness_row_atRef (enc := enc) (C := Tryz.checked) false (a5W os) #[.slice none 0 0] (World.laidAll_os _ _ _) (by kernel_rfl) (by kernel_rfl) (by kernel_rfl)
   (OpenSpec.preRow_of_cond 8 hx (by kernel_rfl) (fun k hk => by cases hk) (by kernel_rfl) (ay1 os _))) ?_
 intro W base args ds gs before hval0 hW hcnd hcond hsz0 hL hsh _
 have hsz : (DataW.weightsEach Tryz.prog (Tryz.f7.params.toList ++ Rows.showNeedsSpec.plain.varTypes Tryz.prog) (ds ++ gs)).all (· ≤ reachBytes) = true := hsz0
 have T : a04 W := ay4 hL hsh
 have hval : ∀ (j : Nat) t v, Tryz.f7.params[j]? = some t → args[j]? = some v → Value.okWide Tryz.prog W .any base t v := hval0
 have hW' := hW
 obtain ⟨p, q, hA0, hV, rfl, hfz, hnd⟩ := hW
 have hA : DataW.TrodAll enc Tryz.prog W 0 (fun _ => true) true Tryz.f7.params.toList args.toList ds p := hA0
 rw [Tryz.params7] at hA hval hsz
 obtain ⟨v0, vs0, d0, ds0, p0, q0, hargs, rfl, rfl, h0, r0⟩ := trodAll_cons hA
 obtain ⟨rfl, rfl, rfl⟩ := trodAll_nil r0
 obtain rfl : args = #[v0] := by cases args; simp_all
 obtain ⟨rfl, rfl⟩ := trodVars_none hV
 obtain ⟨a0, len0, cap0, rfl⟩ := okWide_slice Tryz.underlying22 (hval 0 22 v0 rfl rfl)
 have k0 := h0
 have lt0 : ∀ x ∈ p0, x.block < W.heap.size := by obtain ⟨m, hm⟩ := k0; exact DataW.trod_lt m _ _ _ hm
 obtain ⟨xs0, rfl, hcells0, hnil0, hcp0, hok0, hdat0⟩ := aH4 h0
 have hlen0 : xs0.length * 72 ≤ 140737488351232 := by
  rcases hdat0 with ⟨_, rfl⟩ | ⟨elems, spare, rfl, hle⟩
  ·simp
  ·have := sized_slice hsz (j := 0) (t := 22) (e := 43) rfl rfl Tryz.underlying22
   rw [al4] at this
   unfold reachBytes at this
   omega
 clear hA0 hval0
 refine (walk a0 cap0 xs0 W hcells0 hnil0 hcp0.1 hcp0.2 (by omega) hok0 T).mono fun e W' ⟨he, hg⟩ => ?_
 subst he
 have bel : Below W.heap.size W W' := (Below.refl _ _).grown hg (Nat.le_refl _) (by simp)
 exact ⟨_, rfl, _, _, _, [], _, [], hW', trodAll_mk1 (shut_bool Tryz.underlying4 _), (trodAll_cons_mk (Below.trod ay0 (by kernel_rfl) (of_decide_eq_true (by kernel_rfl)) k0 bel lt0) trodAll_mk0), rfl, bel.frame _, fun h => by cases h⟩
theorem over : Rows.ShowNeedsSaid :=
 OpenClaim.holds_of_cond 7 Tryz.f7 rfl rfl rfl rfl rfl rfl rfl ⟨rfl, rfl, rfl, rfl, rfl⟩ rfl rfl rfl rfl rfl (by kernel_rfl) Tryz.func7 (by kernel_rfl)
  (of_decide_eq_true (by kernel_rfl)) (by unfold Func.isWrapper; first | (rw [if_pos (by decide +kernel)]; kernel_rfl) | (rw [if_neg (by decide +kernel)]; exact ⟨rfl, rfl⟩))
  (fun os started H enc _ F => by rw [OpenClaim.pre_eq_preRow]; exact lifted os started H enc F)
theorem plain (f : FuncId) (fn : Func) (hf : Tryz.pinned.checked.prog.funcNamed "riddle/riddlelaw13.ShowNeeds" = some f) (hfn : Tryz.pinned.checked.prog.funcs[f]? = some fn) :
  true = Tryz.pinned.checked.prog.looks [] ∧ ∀ (j : Nat) t, fn.params[j]? = some t → Tryz.pinned.checked.prog.wantsStandIn t = false := by
 obtain rfl : f = 7 := Option.some.inj ((show Tryz.prog.funcNamed "riddle/riddlelaw13.ShowNeeds" = some 7 by kernel_rfl).symm.trans hf) |>.symm
 obtain rfl : fn = Tryz.f7 := (Option.some.inj (Tryz.func7.symm.trans hfn)).symm
 refine ⟨by kernel_rfl, fun j t ht => ?_⟩
 rw [Tryz.params7] at ht
 have ht2 := Array.mem_of_getElem? ht
 simp only [List.mem_toArray, List.mem_cons, List.not_mem_nil, or_false] at ht2
 rcases ht2 with rfl
 ·exact (show Tryz.prog.wantsStandIn 22 = false by kernel_rfl)
theorem card : Rows.ShowNeedsCardSaid :=
 Claim7.holds_tied_plain_at .later [] _ _ _ _ over (fun _ h => by cases h) (by kernel_rfl) (fun _ h => by cases h) showNeeds_row_tie rfl ⟨rfl, rfl⟩ (by kernel_rfl) rfl plain (by kernel_rfl)

end showNeeds
theorem showNeeds_holds : Rows.ShowNeedsCardSaid := showNeeds.card
#print axioms showNeeds_holds

end Go.Proofs.YtklipelnjgpnjaaGreatDoor
