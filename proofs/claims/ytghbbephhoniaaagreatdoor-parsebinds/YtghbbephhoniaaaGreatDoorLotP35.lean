import Derived.Test.YtghbbephhoniaaaGreatDoorLotP34
import Derived.Lib.ConvBytes
import Derived.Shelf.Small.Wraps
import Derived.Shelf.LaysM
import Derived.Shelf.Strconv.Clone
import Derived.Shelf.Strconv.SyntaxError
import Derived.Shelf.LaysC
import Derived.Shelf.Strconv.ToError
import Derived.Shelf.Strconv.RangeError
import Derived.Shelf.Strconv.ToErrorRange
import Derived.Shelf.Strings.Search1
import Derived.Shelf.Strings.Search2
import Derived.Shelf.Strings.Cut
import Derived.Shelf.Strings.Prefix
import Derived.Test.YtghbbephhoniaaaGreatDoorProg
namespace Go.Proofs.YtghbbephhoniaaaGreatDoor
open Go.RowKit
set_option maxRecDepth 100000
def signsL : List (List UInt8) := twosL ++ onesL.map fun c => [c]
def Tab (w : World) : Prop := (∃ ao cap, w.cell? ⟨0, 0, none⟩ = some (.slice ao 25 cap) ∧ CV w ao (signsL.map str)) ∧ (∃ t v, w.cell? ⟨1, 0, none⟩ = some (.iface t v)) ∧ ∃ t v, w.cell? ⟨2, 0, none⟩ = some (.iface t v)
theorem Tab.grown {w w' : World} (T : Tab w) (G : w.grownBy w' none) : Tab w' := by
 obtain ⟨⟨ao, cap, h1, h2⟩, ⟨t, v, h3⟩, t', u, h4⟩ := T
 exact ⟨⟨ao, cap, G.cell h1 (by simp), h2.keptNone G⟩, ⟨t, v, G.cell h3 (by simp)⟩, t', u, G.cell h4 (by simp)⟩
theorem below_grown {w w' : World} (h : Below w.heap.size w w') : w.grownBy w' none := ⟨h.os, h.tape, h.output, h.size, fun k hk _ => h.block k hk⟩
theorem find_pre (n : Nat) : ∀ (L : List (List UInt8)) (_ : ∀ x ∈ L, x.length = n) (s : List UInt8), L.find? (fun x => x.isPrefixOf s) = if s.take n ∈ L then some (s.take n) else none
 | [], _, s => by simp
 | x :: L, h, s => by
  have hx : x.length = n := h x (List.mem_cons_self ..)
  have ih := find_pre n L (fun y hy => h y (List.mem_cons_of_mem _ hy)) s
  by_cases hp : x.isPrefixOf s = true
  ·have e : x = s.take n := by
    have := List.prefix_iff_eq_take.1 (List.isPrefixOf_iff_prefix.1 hp)
    rw [hx] at this
    exact this
   rw [List.find?_cons_of_pos (p := fun x : List UInt8 => x.isPrefixOf s) hp, if_pos (by rw [← e]; exact List.mem_cons_self ..), ← e]
  ·rw [List.find?_cons_of_neg (p := fun x : List UInt8 => x.isPrefixOf s) hp, ih]
   have e : ¬ s.take n = x := fun e => hp (List.isPrefixOf_iff_prefix.2 (by rw [← e]; exact List.take_prefix ..))
   by_cases hm : s.take n ∈ L
   ·rw [if_pos hm, if_pos (List.mem_cons_of_mem _ hm)]
   ·rw [if_neg hm, if_neg (by simp [e, hm])]
def findV (L : List (List UInt8)) (s : List UInt8) : List UInt8 := match L.find? (fun x => x.isPrefixOf s) with
 | some x => x
 | none => []
theorem sign_find (s : List UInt8) : signV s = findV signsL s := by
 unfold findV signsL
 rw [List.find?_append, find_pre 2 twosL (by decide), find_pre 1 (onesL.map fun c => [c]) (by decide)]
 unfold signV
 by_cases h2 : s.take 2 ∈ twosL
 ·rw [if_pos h2, if_pos h2]
  rfl
 ·rw [if_neg h2, if_neg h2, Option.none_or]
  cases s with
  | nil => decide
  | cons c r =>
   have e1 : (c :: r).take 1 = [c] := rfl
   rw [e1]
   by_cases hc : onesL.contains c = true
   ·rw [if_pos (by simpa using hc), if_pos (by simpa using hc)]
   ·rw [if_neg (by simpa using hc), if_neg (by simpa using hc)]
theorem findV_hit {L : List (List UInt8)} {K s : List UInt8} (h : K.isPrefixOf s = true) : findV (K :: L) s = K := by
 unfold findV; rw [List.find?_cons_of_pos (p := fun x : List UInt8 => x.isPrefixOf s) h]
theorem findV_miss {L : List (List UInt8)} {K s : List UInt8} (h : K.isPrefixOf s = false) : findV (K :: L) s = findV L s := by
 unfold findV; rw [List.find?_cons_of_neg (p := fun x : List UInt8 => x.isPrefixOf s) (by rw [h]; simp)]
theorem pre_take {K s : List UInt8} (h : K.isPrefixOf s = true) : s.take K.length = K := (List.prefix_iff_eq_take.1 (List.isPrefixOf_iff_prefix.1 h)).symm
theorem pre_step {K s : List UInt8} {a b : UInt8} : (a :: K).isPrefixOf (b :: s) = (a == b && K.isPrefixOf s) := rfl
set_option maxRecDepth 100000 in
set_option maxHeartbeats 4000000 in
theorem sign_any (s : ByteArray) (hs : s.size ≤ 140737488355328) (w : World) (T : Tab w) :
  Calls Tryz.prog 40 #[.string s] w fun e w' => e = .returned (str (signV (sl s))) ∧ w.grownBy w' none := by
 obtain ⟨⟨ao, cap, h1, h2⟩, -⟩ := T
 rw [sign_find]
 obtain ⟨ans, hans⟩ : ∃ ans, findV signsL (sl s) = ans := ⟨_, rfl⟩
 rw [hans]
 have HA : Hid (findV (signsL.drop 0) (sl s) = ans) := hans
 have HC : Hid (CV w ao (signsL.map str)) := h2
 have hlen : Hid (signsL.length = 25) := rfl
 have hmost : Hid (∀ K ∈ signsL, K.length ≤ 2) := by show ∀ K ∈ signsL, K.length ≤ 2; decide
 clear hans h2
 generalize signsL = L at *
 go_enter Tryz.func40, Tryz.ntmps40
 go_wp2; go_step3
 go_wp2; go_step3
 go_wp2
 clear h1
 go_loopw [8] (fun i wr => ∃ j : Nat, j ≤ 25 ∧ i = .int .i64 j ∧ Hid (findV (L.drop j) (sl s) = ans) ∧ w.grownBy wr none) (fun i _ => 25 - (intOf i).toNat)
 case atStart => exact ⟨0, Nat.zero_le _, rfl, HA, World.grownBy.refl _ _⟩
 case round =>
  clear HA
  obtain ⟨j, hj, rfl, HI, G⟩ := hrel
  by_cases hlt : j < 25
  ·have hji : (j : Int) < 25 := by omega
   have hjl : j < L.length := by rw [hlen.out]; exact hlt
   have HD : Hid (L.drop j = L[j] :: L.drop (j + 1)) := List.drop_eq_getElem_cons hjl
   obtain ⟨bb, o, rfl, hc⟩ := HC.out.addr (k := j) (by rw [List.length_map]; exact hjl)
   have hcj := hc j (by rw [List.length_map]; exact hjl)
   rw [List.getElem_map] at hcj
   have hk2 := hmost.out L[j] (List.getElem_mem hjl)
   have c0 : wr.cell? ⟨bb, o + j, none⟩ = some (str L[j]) := G.cell hcj (by simp)
   clear hc hcj HC hmost hlen
   generalize L[j] = K at *
   obtain ⟨KB, hKB⟩ : ∃ KB : ByteArray, ⟨K.toArray⟩ = KB := ⟨_, rfl⟩
   have hsl : sl KB = K := by rw [← hKB]; rfl
   have hsz : KB.size = K.length := by rw [← sl_len, hsl]
   have HK : Hid (sl KB = K) := hsl
   have hst : str K = .string KB := by rw [str, hKB]
   rw [hst] at c0
   have hki : (KB.size : Int) ≤ 2 := by omega
   have HSZ : Hid (KB.size = K.length) := hsz
   have HG : Hid (w.grownBy wr none) := G
   clear hKB hsl hst G hsz
   go_wp2
   clear c0
   go_loopw [14] (fun i wr => ∃ q : Nat, q ≤ KB.size ∧ i = .int .i64 q ∧ Hid (K.isPrefixOf (sl s) = (K.drop q).isPrefixOf ((sl s).drop q)) ∧ w.grownBy wr none) (fun i _ => KB.size - (intOf i).toNat)
   case atStart => exact ⟨0, Nat.zero_le _, rfl, rfl, HG.out⟩
   case round =>
    clear HG
    obtain ⟨q, hq, rfl, HQ, G⟩ := hrel
    have HG : Hid (w.grownBy wr none) := G
    clear G
    have z0 : (0 : Int) ≤ (q : Int) := by omega
    by_cases hqk : q < KB.size
    ·have hqi : (q : Int) < (KB.size : Int) := by omega
     have HKD : Hid (K.drop q = KB[q] :: K.drop (q + 1)) := by show K.drop q = _; rw [← HK.out]; exact sl_drop KB q hqk
     by_cases hqs : q < s.size
     ·have hqsi : ¬ (s.size : Int) ≤ (q : Int) := by omega
      have hqs' : (q : Int) < (s.size : Int) := by omega
      have HSD : Hid ((sl s).drop q = s[q] :: (sl s).drop (q + 1)) := sl_drop s q hqs
      by_cases he : s[q] = KB[q]
      ·have heb : ((s[q].toNat : Int) != (KB[q].toNat : Int)) = false := by rw [he]; simp
       have HN : Hid (K.isPrefixOf (sl s) = (K.drop (q + 1)).isPrefixOf ((sl s).drop (q + 1))) := by
        show _ = _
        rw [HQ.out, HKD.out, HSD.out, pre_step, he]
        simp
       clear HQ HKD HSD he
       go_wp2
       go_quiet (fail)
       go_wp2
       go_roundw
       case rel => exact ⟨q + 1, by omega, by go_num, HN, grown_trans HG.out (grown_drewN _ _ none)⟩
       case measure => simp [intOf]; omega
      ·have heb : ((s[q].toNat : Int) != (KB[q].toNat : Int)) = true := by
        simp only [bne_iff_ne, ne_eq]
        intro e
        exact he (UInt8.toNat_inj.1 (by omega))
       have HN : Hid (K.isPrefixOf (sl s) = false) := by
        show _ = _
        rw [HQ.out, HKD.out, HSD.out, pre_step]
        simp only [Bool.and_eq_false_iff, beq_eq_false_iff_ne]
        exact .inl (fun e => he e.symm)
       clear HQ HKD HSD he
       go_wp2
       go_quiet (fail)
       go_wp2
       go_roundw
       case rel => exact ⟨j + 1, by omega, by go_num, by show findV (L.drop (j + 1)) (sl s) = ans; rw [← HI.out, HD.out, findV_miss HN.out], grown_trans HG.out (grown_drewN _ _ none)⟩
       case measure => simp [intOf]; omega
     ·have hqsi : (s.size : Int) ≤ (q : Int) := by omega
      have HN : Hid (K.isPrefixOf (sl s) = false) := by
       show _ = _
       rw [HQ.out, HKD.out, List.drop_eq_nil_of_le («as» := sl s) (i := q) (by rw [sl_len]; omega)]
       rfl
      clear HQ HKD
      go_wp2
      go_quiet (fail)
      go_wp2
      go_roundw
      case rel => exact ⟨j + 1, by omega, by go_num, by show findV (L.drop (j + 1)) (sl s) = ans; rw [← HI.out, HD.out, findV_miss HN.out], grown_trans HG.out (grown_drewN _ _ none)⟩
      case measure => simp [intOf]; omega
    ·obtain rfl : q = KB.size := by omega
     have hqi : ¬ (KB.size : Int) < (KB.size : Int) := by omega
     have HN : Hid (K.isPrefixOf (sl s) = true) := by
      show _ = _
      rw [HQ.out, List.drop_eq_nil_of_le («as» := K) (by rw [HSZ.out]; exact Nat.le_refl _)]
      rfl
     have hle : KB.size ≤ s.size := by
      have := List.IsPrefix.length_le (List.isPrefixOf_iff_prefix.1 HN.out)
      rw [sl_len] at this
      rw [HSZ.out]
      exact this
     have hle' : (KB.size : Int) ≤ (s.size : Int) := by omega
     have HE : Hid (Value.string (s.extract 0 KB.size) = str ans) := by
      show _ = _
      rw [str_sl, sl_extract, ← HI.out, HD.out, findV_hit HN.out, HSZ.out]
      congr 1
      simpa using pre_take HN.out
     clear HQ hqk
     go_wp2
     go_ret
     exact ⟨by rw [HE.out]; rfl, HG.out⟩
  ·obtain rfl : j = 25 := by omega
   have HE : Hid (([] : List UInt8) = ans) := by
    show _ = _
    rw [← HI.out, List.drop_eq_nil_of_le (by rw [hlen.out]; exact Nat.le_refl _)]
    rfl
   go_wp2
   rw [Exit.noGoto_ret]
   go_ret
   exact ⟨by rw [← HE.out]; rfl, G⟩
def digB (n : Nat) : Nat := if n ≤ 57 then n - 48 else n - 87
def pU (b : Nat) : Nat → List UInt8 → Option Nat
 | v, [] => some v
 | v, c :: r => if digB c.toNat < b then (if 4294967295 < v * b + digB c.toNat then none else pU b (v * b + digB c.toNat) r) else none
theorem word_nat {c : UInt8} (h : wordB c = true) : (48 ≤ c.toNat ∧ c.toNat ≤ 57) ∨ (97 ≤ c.toNat ∧ c.toNat ≤ 122) := by
 simp only [wordB, isDig, letB, Bool.or_eq_true, Bool.and_eq_true, decide_eq_true_eq] at h
 exact h
set_option maxHeartbeats 400000 in
theorem lower_any (n : Nat) (h1 : 97 ≤ n) (h2 : n ≤ 122) (w : World) :
  Calls Tryz.prog 75 #[.int .u8 (n : Int)] w fun e w' => e = .returned (.int .u8 (n : Int)) ∧ w = w' := by
 have h : ∀ k : Fin 26, bits .or .u8 ((97 + k.1 : Nat) : Int) 32 = ((97 + k.1 : Nat) : Int) := by decide +kernel
 have h3 := h ⟨n - 97, by omega⟩
 simp only [show 97 + (n - 97) = n by omega] at h3
 clear h
 go_enter Tryz.func75, Tryz.ntmps75
 go_wp2
 go_ret
 exact ⟨ret_int (by first | exact h3 | rfl), rfl⟩
def NumP (r : Option Nat) (e : Ending) : Prop := ∃ (n : Int) (er : Value), e = .returned (.tuple #[.int .u64 n, er]) ∧ ((r = none ∧ (er = .iface 114 (.int .i64 1) ∨ er = .iface 114 (.int .i64 2))) ∨ (∃ m : Nat, r = some m ∧ n = (m : Int) ∧ er = .nilIface))
theorem bytes_grown (w : World) (e : TypeId) (s : ByteArray) : w.grownBy (Lib.bytesWorld w e s) none :=
 ⟨rfl, rfl, rfl, by rw [Lib.bytesWorld_size]; omega, fun k hk _ => Lib.bytesWorld_at_old w e s k hk⟩
set_option maxHeartbeats 8000000 in
set_option maxRecDepth 100000 in
theorem iparse10_any (t : ByteArray) (hne : t.size ≠ 0) (hmax : t.size ≤ 140737488355328) (ht : ∀ c ∈ sl t, wordB c = true) (w : World) :
  Calls Tryz.prog 63 #[.string t, .int .i64 10, .int .i64 32] w fun e w' => NumP (pU 10 0 (sl t)) e ∧ w.grownBy w' none := by
 have hemp : t.toList.isEmpty = false := by
  rw [← decide_eq_emptyBytes]
  exact decide_eq_false (fun h => hne (by rw [h]; rfl))
 have hcv := Lib.run_convert_string_bytes (P := Tryz.prog) w 9 88 5 t (u := .string) Tryz.underlying9 Tryz.underlying88 Tryz.underlying5
 have HB : Hid (∀ j (hj : j < t.size), (Lib.bytesWorld w 5 t).cell? ⟨w.heap.size, j, none⟩ = some (.int .u8 (t[j].toNat : Int))) := fun j hj => by
  have := Lib.bytesWorld_cell w 5 t j hj
  rw [this]
  congr 3
  have h2 := sl_get t j hj
  show (t.data.toList.getD j 0).toNat = _
  rw [List.getD_eq_getElem?_getD, show t.data.toList[j]? = some t[j] from h2]
  rfl
 have HG : Hid (w.grownBy (Lib.bytesWorld w 5 t) none) := bytes_grown _ _ _
 generalize Lib.bytesWorld w 5 t = W1 at *
 have HWD : Hid (∀ j (hj : j < t.size), wordB t[j] = true) := fun j hj => ht _ (List.mem_of_getElem? (sl_get t j hj))
 obtain ⟨ans, hans⟩ : ∃ ans, pU 10 0 (sl t) = ans := ⟨_, rfl⟩
 have HA : Hid (pU 10 0 ((sl t).drop 0) = ans) := by show _ = ans; rw [List.drop_zero]; exact hans
 rw [hans]
 have HL : Hid (∀ (n : Nat), 97 ≤ n → n ≤ 122 → ∀ w : World, Calls Tryz.prog 75 #[.int .u8 (n : Int)] w fun e w' => e = .returned (.int .u8 (n : Int)) ∧ w = w') := fun n h1 h2 w => lower_any n h1 h2 w
 have hmv : IntKind.u64.wrap (IntKind.u64.wrap 4294967296 - 1) = 4294967295 := by
  rw [IntKind.wrap_u64, IntKind.wrap_u64]
  decide
 clear hans ht hne
 go_enter Tryz.func63, Tryz.ntmps63
 go_wp2
 go_loopw [12, 13, 101] (fun vu vn vi wr => ∃ (k acc : Nat) (a : Int), vu = .bool false ∧ vn = .int .u64 a ∧ vi = .int .i64 k ∧ k ≤ t.size ∧ Hid (a = (acc : Int) ∧ acc ≤ 4294967295 ∧ pU 10 acc ((sl t).drop k) = ans) ∧ wr = W1) (fun _ _ vi _ => t.size - (intOf vi).toNat)
 case atStart => exact ⟨0, 0, 0, rfl, rfl, rfl, Nat.zero_le _, ⟨rfl, Nat.zero_le _, HA.out⟩, rfl⟩
 case round =>
  clear HA hcv
  obtain ⟨k, acc, a, rfl, rfl, rfl, hk, hh, rfl⟩ := hrel
  obtain ⟨ha, hacc, hdec⟩ := hh.out
  clear hh
  have a0 : 0 ≤ a := by omega
  have a1 : a ≤ 4294967295 := by omega
  have z0 : (0 : Int) ≤ (k : Int) := by omega
  by_cases hkn : k < t.size
  ·have hki : (k : Int) < (t.size : Int) := by omega
   have hc := HB.out k hkn
   have hwd := word_nat (HWD.out k hkn)
   rw [sl_drop t k hkn, pU] at hdec
   have hc256 : t[k].toNat < 256 := t[k].toNat_lt
   generalize t[k].toNat = c at *
   have HB' : Hid _ := HB
   clear HB HWD
   have icut : a < 1844674407370955162 := by omega
   have b95 : ((c : Int) == 95) = false := by rw [beq_eq_false_iff_ne]; omega
   rcases hwd with ⟨hd0, hd1⟩ | ⟨hd0, hd1⟩
   ·have hdv : digB c = c - 48 := by rw [digB, if_pos hd1]
    have i0 : (48 : Int) ≤ (c : Int) := by omega
    have i1 : (c : Int) ≤ 57 := by omega
    have hw0 : IntKind.u8.wrap ((c : Int) - 48) = (c : Int) - 48 := by rw [IntKind.wrap_u8]; omega
    rw [hdv, if_pos (by omega)] at hdec
    by_cases hov : 4294967295 < acc * 10 + (c - 48)
    ·rw [if_pos hov] at hdec
     subst hdec
     have iov : 4294967295 < a * 10 + ((c : Int) - 48) := by omega
     clear hov ha hacc hdv HB' HL hd0 hd1
     go_wp2
     go_ret2
     exact ⟨⟨_, _, rfl, .inl ⟨rfl, .inl rfl⟩⟩, HG.out⟩
    ·rw [if_neg hov] at hdec
     have HN : Hid (a * 10 + ((c : Int) - 48) = ((acc * 10 + (c - 48) : Nat) : Int) ∧ acc * 10 + (c - 48) ≤ 4294967295 ∧ pU 10 (acc * 10 + (c - 48)) ((sl t).drop (k + 1)) = ans) := ⟨by omega, by omega, hdec⟩
     have iov : a * 10 + ((c : Int) - 48) ≤ 4294967295 := by omega
     clear hov ha hacc hdec hdv HB' HL hd0 hd1
     go_wp2
     go_roundw
     case rel => exact ⟨k + 1, acc * 10 + (c - 48), a * 10 + ((c : Int) - 48), rfl, by first | rfl | (congr 1; omega), by go_num, by omega, HN, by first | rfl | trivial⟩
     case measure => simp [intOf]; omega
   ·have hdv : digB c = c - 87 := by rw [digB, if_neg (by omega)]
    have i0 : (48 : Int) ≤ (c : Int) := by omega
    have i1 : ¬ (c : Int) ≤ 57 := by omega
    have i2 : (97 : Int) ≤ (c : Int) := by omega
    have i3 : (c : Int) ≤ 122 := by omega
    have hw0 : IntKind.u8.wrap ((c : Int) - 97) = (c : Int) - 97 := by rw [IntKind.wrap_u8]; omega
    have hw1 : IntKind.u8.wrap ((c : Int) - 97 + 10) = (c : Int) - 87 := by rw [IntKind.wrap_u8]; omega
    have CL := HL.out c hd0 hd1
    rw [hdv] at hdec
    by_cases hbg : c - 87 < 10
    ·exact absurd hbg (by omega)
    ·rw [if_neg hbg] at hdec
     subst hdec
     have ibg : ¬ (c : Int) - 87 < 10 := by omega
     clear ha hacc hdv HB' HL hd0 hd1 hbg
     go_wp2_with (go_at_call 75; refine (CL _).mono ?_; rintro e w' ⟨rfl, rfl⟩)
     go_ret2
     exact ⟨⟨_, _, rfl, .inl ⟨rfl, .inr rfl⟩⟩, HG.out⟩
  ·obtain rfl : k = t.size := by omega
   have hki : ¬ (t.size : Int) < (t.size : Int) := by omega
   rw [List.drop_eq_nil_of_le (by rw [sl_len]; exact Nat.le_refl _), pU] at hdec
   subst hdec
   have HN : Hid (a = (acc : Int)) := ha
   clear ha hacc HB HWD HL
   go_wp2
   go_ret2
   exact ⟨⟨_, _, rfl, .inr ⟨acc, rfl, HN.out, rfl⟩⟩, HG.out⟩
set_option maxHeartbeats 8000000 in
set_option maxRecDepth 100000 in
theorem iparse16_any (t : ByteArray) (hne : t.size ≠ 0) (hmax : t.size ≤ 140737488355328) (ht : ∀ c ∈ sl t, wordB c = true) (w : World) :
  Calls Tryz.prog 63 #[.string t, .int .i64 16, .int .i64 32] w fun e w' => NumP (pU 16 0 (sl t)) e ∧ w.grownBy w' none := by
 have hemp : t.toList.isEmpty = false := by
  rw [← decide_eq_emptyBytes]
  exact decide_eq_false (fun h => hne (by rw [h]; rfl))
 have hcv := Lib.run_convert_string_bytes (P := Tryz.prog) w 9 88 5 t (u := .string) Tryz.underlying9 Tryz.underlying88 Tryz.underlying5
 have HB : Hid (∀ j (hj : j < t.size), (Lib.bytesWorld w 5 t).cell? ⟨w.heap.size, j, none⟩ = some (.int .u8 (t[j].toNat : Int))) := fun j hj => by
  have := Lib.bytesWorld_cell w 5 t j hj
  rw [this]
  congr 3
  have h2 := sl_get t j hj
  show (t.data.toList.getD j 0).toNat = _
  rw [List.getD_eq_getElem?_getD, show t.data.toList[j]? = some t[j] from h2]
  rfl
 have HG : Hid (w.grownBy (Lib.bytesWorld w 5 t) none) := bytes_grown _ _ _
 generalize Lib.bytesWorld w 5 t = W1 at *
 have HWD : Hid (∀ j (hj : j < t.size), wordB t[j] = true) := fun j hj => ht _ (List.mem_of_getElem? (sl_get t j hj))
 obtain ⟨ans, hans⟩ : ∃ ans, pU 16 0 (sl t) = ans := ⟨_, rfl⟩
 have HA : Hid (pU 16 0 ((sl t).drop 0) = ans) := by show _ = ans; rw [List.drop_zero]; exact hans
 rw [hans]
 have HL : Hid (∀ (n : Nat), 97 ≤ n → n ≤ 122 → ∀ w : World, Calls Tryz.prog 75 #[.int .u8 (n : Int)] w fun e w' => e = .returned (.int .u8 (n : Int)) ∧ w = w') := fun n h1 h2 w => lower_any n h1 h2 w
 have hmv : IntKind.u64.wrap (IntKind.u64.wrap 4294967296 - 1) = 4294967295 := by
  rw [IntKind.wrap_u64, IntKind.wrap_u64]
  decide
 clear hans ht hne
 go_enter Tryz.func63, Tryz.ntmps63
 go_wp2
 go_loopw [12, 13, 101] (fun vu vn vi wr => ∃ (k acc : Nat) (a : Int), vu = .bool false ∧ vn = .int .u64 a ∧ vi = .int .i64 k ∧ k ≤ t.size ∧ Hid (a = (acc : Int) ∧ acc ≤ 4294967295 ∧ pU 16 acc ((sl t).drop k) = ans) ∧ wr = W1) (fun _ _ vi _ => t.size - (intOf vi).toNat)
 case atStart => exact ⟨0, 0, 0, rfl, rfl, rfl, Nat.zero_le _, ⟨rfl, Nat.zero_le _, HA.out⟩, rfl⟩
 case round =>
  clear HA hcv
  obtain ⟨k, acc, a, rfl, rfl, rfl, hk, hh, rfl⟩ := hrel
  obtain ⟨ha, hacc, hdec⟩ := hh.out
  clear hh
  have a0 : 0 ≤ a := by omega
  have a1 : a ≤ 4294967295 := by omega
  have z0 : (0 : Int) ≤ (k : Int) := by omega
  by_cases hkn : k < t.size
  ·have hki : (k : Int) < (t.size : Int) := by omega
   have hc := HB.out k hkn
   have hwd := word_nat (HWD.out k hkn)
   rw [sl_drop t k hkn, pU] at hdec
   have hc256 : t[k].toNat < 256 := t[k].toNat_lt
   generalize t[k].toNat = c at *
   have HB' : Hid _ := HB
   clear HB HWD
   have icut : a < 1152921504606846976 := by omega
   have b95 : ((c : Int) == 95) = false := by rw [beq_eq_false_iff_ne]; omega
   rcases hwd with ⟨hd0, hd1⟩ | ⟨hd0, hd1⟩
   ·have hdv : digB c = c - 48 := by rw [digB, if_pos hd1]
    have i0 : (48 : Int) ≤ (c : Int) := by omega
    have i1 : (c : Int) ≤ 57 := by omega
    have hw0 : IntKind.u8.wrap ((c : Int) - 48) = (c : Int) - 48 := by rw [IntKind.wrap_u8]; omega
    rw [hdv, if_pos (by omega)] at hdec
    by_cases hov : 4294967295 < acc * 16 + (c - 48)
    ·rw [if_pos hov] at hdec
     subst hdec
     have iov : 4294967295 < a * 16 + ((c : Int) - 48) := by omega
     clear hov ha hacc hdv HB' HL hd0 hd1
     go_wp2
     go_ret2
     exact ⟨⟨_, _, rfl, .inl ⟨rfl, .inl rfl⟩⟩, HG.out⟩
    ·rw [if_neg hov] at hdec
     have HN : Hid (a * 16 + ((c : Int) - 48) = ((acc * 16 + (c - 48) : Nat) : Int) ∧ acc * 16 + (c - 48) ≤ 4294967295 ∧ pU 16 (acc * 16 + (c - 48)) ((sl t).drop (k + 1)) = ans) := ⟨by omega, by omega, hdec⟩
     have iov : a * 16 + ((c : Int) - 48) ≤ 4294967295 := by omega
     clear hov ha hacc hdec hdv HB' HL hd0 hd1
     go_wp2
     go_roundw
     case rel => exact ⟨k + 1, acc * 16 + (c - 48), a * 16 + ((c : Int) - 48), rfl, by first | rfl | (congr 1; omega), by go_num, by omega, HN, by first | rfl | trivial⟩
     case measure => simp [intOf]; omega
   ·have hdv : digB c = c - 87 := by rw [digB, if_neg (by omega)]
    have i0 : (48 : Int) ≤ (c : Int) := by omega
    have i1 : ¬ (c : Int) ≤ 57 := by omega
    have i2 : (97 : Int) ≤ (c : Int) := by omega
    have i3 : (c : Int) ≤ 122 := by omega
    have hw0 : IntKind.u8.wrap ((c : Int) - 97) = (c : Int) - 97 := by rw [IntKind.wrap_u8]; omega
    have hw1 : IntKind.u8.wrap ((c : Int) - 97 + 10) = (c : Int) - 87 := by rw [IntKind.wrap_u8]; omega
    have CL := HL.out c hd0 hd1
    rw [hdv] at hdec
    by_cases hbg : c - 87 < 16
    ·rw [if_pos hbg] at hdec
     by_cases hov : 4294967295 < acc * 16 + (c - 87)
     ·rw [if_pos hov] at hdec
      subst hdec
      have iov : 4294967295 < a * 16 + ((c : Int) - 87) := by omega
      have ibg : (c : Int) - 87 < 16 := by omega
      clear hov ha hacc hdv HB' HL hd0 hd1 hbg
      go_wp2_with (go_at_call 75; refine (CL _).mono ?_; rintro e w' ⟨rfl, rfl⟩)
      go_ret2
      exact ⟨⟨_, _, rfl, .inl ⟨rfl, .inl rfl⟩⟩, HG.out⟩
     ·rw [if_neg hov] at hdec
      have HN : Hid (a * 16 + ((c : Int) - 87) = ((acc * 16 + (c - 87) : Nat) : Int) ∧ acc * 16 + (c - 87) ≤ 4294967295 ∧ pU 16 (acc * 16 + (c - 87)) ((sl t).drop (k + 1)) = ans) := ⟨by omega, by omega, hdec⟩
      have iov : a * 16 + ((c : Int) - 87) ≤ 4294967295 := by omega
      have ibg : (c : Int) - 87 < 16 := by omega
      clear hov ha hacc hdec hdv HB' HL hd0 hd1 hbg
      go_wp2_with (go_at_call 75; refine (CL _).mono ?_; rintro e w' ⟨rfl, rfl⟩)
      go_roundw
      case rel => exact ⟨k + 1, acc * 16 + (c - 87), a * 16 + ((c : Int) - 87), rfl, by first | rfl | (congr 1; omega), by go_num, by omega, HN, by first | rfl | trivial⟩
      case measure => simp [intOf]; omega
    ·rw [if_neg hbg] at hdec
     subst hdec
     have ibg : ¬ (c : Int) - 87 < 16 := by omega
     clear ha hacc hdv HB' HL hd0 hd1 hbg
     go_wp2_with (go_at_call 75; refine (CL _).mono ?_; rintro e w' ⟨rfl, rfl⟩)
     go_ret2
     exact ⟨⟨_, _, rfl, .inl ⟨rfl, .inr rfl⟩⟩, HG.out⟩
  ·obtain rfl : k = t.size := by omega
   have hki : ¬ (t.size : Int) < (t.size : Int) := by omega
   rw [List.drop_eq_nil_of_le (by rw [sl_len]; exact Nat.le_refl _), pU] at hdec
   subst hdec
   have HN : Hid (a = (acc : Int)) := ha
   clear ha hacc HB HWD HL
   go_wp2
   go_ret2
   exact ⟨⟨_, _, rfl, .inr ⟨acc, rfl, HN.out, rfl⟩⟩, HG.out⟩
set_option maxHeartbeats 1000000 in
theorem iparse0_any (b : Nat) (w : World) :
  Calls Tryz.prog 63 #[.string ⟨#[]⟩, .int .i64 (b : Int), .int .i64 32] w fun e w' => NumP none e ∧ w = w' := by
 go_enter Tryz.func63, Tryz.ntmps63
 go_wp2
 go_ret2
 exact ⟨⟨_, _, rfl, .inl ⟨rfl, .inr rfl⟩⟩, rfl⟩

end Go.Proofs.YtghbbephhoniaaaGreatDoor

namespace Go.Proofs
open Go.Shelf
def Tryz.lays103_ren : Go.Shelf.Ren := ⟨fun | 103 => 51 | 210 => 62 | 206 => 74 | n => n, fun | 9 => 9 | 4 => 4 | 24 => 90 | 3 => 3 | n => n, fun | n => n⟩
theorem Tryz.lays103 : Go.Proofs.Lays.n103 Tryz.prog Tryz.lays103_ren := {
 mixed := by kernel_rfl
 f103 := Tryz.func51.trans (congrArg some (by kernel_rfl))
 f206 := Tryz.func74.trans (congrArg some (by kernel_rfl))
 f210 := Tryz.func62.trans (congrArg some (by kernel_rfl))
 t3 := Tryz.underlying3
 a3 := Tryz.isAgg3
 z3 := Tryz.sizeOf3
 v3 := Tryz.zeroValue3
 t4 := Tryz.underlying4
 a4 := Tryz.isAgg4
 z4 := Tryz.sizeOf4
 v4 := Tryz.zeroValue4
 t9 := Tryz.underlying9
 a9 := Tryz.isAgg9
 z9 := Tryz.sizeOf9
 v9 := Tryz.zeroValue9
 t24 := Tryz.underlying90
 a24 := Tryz.isAgg90
 z24 := Tryz.sizeOf90
 v24 := Tryz.zeroValue90 }
open Go.RowKit in
theorem Tryz.strings_CutPrefix (s p : ByteArray) (w : World) :
  Calls Tryz.prog 51 #[.string s, .string p] w fun e w' => e = .returned (.tuple #[.string ⟨(Lib.trimPrefix s.data.toList p.data.toList).toArray⟩, .bool (Lib.hasPrefix s.data.toList p.data.toList)]) ∧ w' = w := Any.strings_CutPrefix Tryz.lays103 s p w
def Tryz.laysC245_ren : Go.Shelf.Ren := ⟨fun | 245 => 64 | 279 => 77 | 280 => 78 | 281 => 79 | 282 => 80 | 316 => 88 | 171 => 90 | 205 => 89 | 243 => 94 | 246 => 96 | 283 => 98 | 284 => 99 | 285 => 100 | 286 => 101 | 129 => 104 | 317 => 103 | 318 => 105 | 319 => 106 | 320 => 107 | 337 => 109 | 338 => 110 | n => n, fun | 9 => 9 | 3 => 3 | 75 => 94 | 167 => 114 | 4 => 4 | 168 => 118 | 210 => 129 | 37 => 88 | 0 => 0 | 127 => 133 | 145 => 136 | 143 => 134 | 2 => 2 | 171 => 138 | 53 => 92 | 5 => 5 | 173 => 141 | 212 => 144 | 51 => 22 | 20 => 20 | 213 => 145 | 46 => 116 | 232 => 148 | 233 => 149 | 80 => 186 | n => n, fun | 15 => 1 | 16 => 2 | 17 => 3 | 18 => 4 | 19 => 5 | n => n⟩
theorem Tryz.laysC245 : Go.Proofs.LaysC.n245 Tryz.prog Tryz.laysC245_ren := {
 mixed := by kernel_rfl
 f129 := Tryz.func104.trans (congrArg some (by kernel_rfl))
 f171 := Tryz.func90.trans (congrArg some (by kernel_rfl))
 f205 := Tryz.func89.trans (congrArg some (by kernel_rfl))
 f243 := Tryz.func94.trans (congrArg some (by kernel_rfl))
 f245 := Tryz.func64.trans (congrArg some (by kernel_rfl))
 f246 := Tryz.func96.trans (congrArg some (by kernel_rfl))
 f279 := Tryz.func77.trans (congrArg some (by kernel_rfl))
 f280 := Tryz.func78.trans (congrArg some (by kernel_rfl))
 f281 := Tryz.func79.trans (congrArg some (by kernel_rfl))
 f282 := Tryz.func80.trans (congrArg some (by kernel_rfl))
 f283 := Tryz.func98.trans (congrArg some (by kernel_rfl))
 f284 := Tryz.func99.trans (congrArg some (by kernel_rfl))
 f285 := Tryz.func100.trans (congrArg some (by kernel_rfl))
 f286 := Tryz.func101.trans (congrArg some (by kernel_rfl))
 f316 := Tryz.func88.trans (congrArg some (by kernel_rfl))
 f317 := Tryz.func103.trans (congrArg some (by kernel_rfl))
 f318 := Tryz.func105.trans (congrArg some (by kernel_rfl))
 f319 := Tryz.func106.trans (congrArg some (by kernel_rfl))
 f320 := Tryz.func107.trans (congrArg some (by kernel_rfl))
 f337 := Tryz.func109.trans (congrArg some (by kernel_rfl))
 f338 := Tryz.func110.trans (congrArg some (by kernel_rfl))
 t0 := Tryz.underlying0
 a0 := Tryz.isAgg0
 z0 := Tryz.sizeOf0
 v0 := Tryz.zeroValue0
 t2 := Tryz.underlying2
 a2 := Tryz.isAgg2
 z2 := Tryz.sizeOf2
 v2 := Tryz.zeroValue2
 t3 := Tryz.underlying3
 a3 := Tryz.isAgg3
 z3 := Tryz.sizeOf3
 v3 := Tryz.zeroValue3
 t4 := Tryz.underlying4
 a4 := Tryz.isAgg4
 z4 := Tryz.sizeOf4
 v4 := Tryz.zeroValue4
 t5 := Tryz.underlying5
 a5 := Tryz.isAgg5
 z5 := Tryz.sizeOf5
 v5 := Tryz.zeroValue5
 t9 := Tryz.underlying9
 a9 := Tryz.isAgg9
 z9 := Tryz.sizeOf9
 v9 := Tryz.zeroValue9
 t20 := Tryz.underlying20
 a20 := Tryz.isAgg20
 z20 := Tryz.sizeOf20
 v20 := Tryz.zeroValue20
 t37 := Tryz.underlying88
 a37 := Tryz.isAgg88
 z37 := Tryz.sizeOf88
 v37 := Tryz.zeroValue88
 t46 := Tryz.underlying116
 a46 := Tryz.isAgg116
 z46 := Tryz.sizeOf116
 v46 := Tryz.zeroValue116
 t51 := Tryz.underlying22
 a51 := Tryz.isAgg22
 z51 := Tryz.sizeOf22
 v51 := Tryz.zeroValue22
 t53 := Tryz.underlying92
 a53 := Tryz.isAgg92
 z53 := Tryz.sizeOf92
 v53 := Tryz.zeroValue92
 t75 := Tryz.underlying94
 a75 := Tryz.isAgg94
 z75 := Tryz.sizeOf94
 v75 := Tryz.zeroValue94
 t127 := Tryz.underlying133
 a127 := Tryz.isAgg133
 z127 := Tryz.sizeOf133
 v127 := Tryz.zeroValue133
 t143 := Tryz.underlying134
 a143 := Tryz.isAgg134
 z143 := Tryz.sizeOf134
 v143 := Tryz.zeroValue134
 t145 := Tryz.underlying136
 a145 := Tryz.isAgg136
 z145 := Tryz.sizeOf136
 v145 := Tryz.zeroValue136
 t167 := Tryz.underlying114
 a167 := Tryz.isAgg114
 z167 := Tryz.sizeOf114
 v167 := Tryz.zeroValue114
 t168 := Tryz.underlying118
 a168 := Tryz.isAgg118
 z168 := Tryz.sizeOf118
 v168 := Tryz.zeroValue118
 t171 := Tryz.underlying138
 a171 := Tryz.isAgg138
 z171 := Tryz.sizeOf138
 v171 := Tryz.zeroValue138
 t173 := Tryz.underlying141
 a173 := Tryz.isAgg141
 z173 := Tryz.sizeOf141
 v173 := Tryz.zeroValue141
 t210 := Tryz.underlying129
 a210 := Tryz.isAgg129
 z210 := Tryz.sizeOf129
 v210 := Tryz.zeroValue129
 t212 := Tryz.underlying144
 a212 := Tryz.isAgg144
 z212 := Tryz.sizeOf144
 v212 := Tryz.zeroValue144
 t213 := Tryz.underlying145
 a213 := Tryz.isAgg145
 z213 := Tryz.sizeOf145
 t232 := Tryz.underlying148
 a232 := Tryz.isAgg148
 z232 := Tryz.sizeOf148
 v232 := Tryz.zeroValue148
 t233 := Tryz.underlying149
 a233 := Tryz.isAgg149
 z233 := Tryz.sizeOf149
 v233 := Tryz.zeroValue149
 g15 := by kernel_rfl
 g16 := by kernel_rfl
 g17 := by kernel_rfl
 g18 := by kernel_rfl
 g19 := by kernel_rfl
 t80 := Tryz.underlying186
 a80 := Tryz.isAgg186
 z80 := Tryz.sizeOf186
 v80 := Tryz.zeroValue186
 i0 := by kernel_rfl
 i2 := by kernel_rfl
 i3 := by kernel_rfl
 i4 := by kernel_rfl
 i5 := by kernel_rfl
 i9 := by kernel_rfl
 i20 := by kernel_rfl
 i37 := by kernel_rfl
 i46 := by kernel_rfl
 i51 := by kernel_rfl
 i53 := by kernel_rfl
 i75 := by kernel_rfl
 i80 := by kernel_rfl
 i127 := by kernel_rfl
 i143 := by kernel_rfl
 i145 := by kernel_rfl
 i167 := by kernel_rfl
 i168 := by kernel_rfl
 i171 := by kernel_rfl
 i173 := by kernel_rfl
 i210 := by kernel_rfl
 i212 := by kernel_rfl
 i232 := by kernel_rfl
 i233 := by kernel_rfl
 m15 := by kernel_rfl
 m16 := by kernel_rfl
 m17 := by kernel_rfl
 m18 := by kernel_rfl
 m19 := by kernel_rfl
 c0 := by kernel_rfl
 c2 := by kernel_rfl
 c3 := by kernel_rfl
 c4 := by kernel_rfl
 c5 := by kernel_rfl
 c9 := by kernel_rfl
 c20 := by kernel_rfl
 c37 := by kernel_rfl
 c46 := by kernel_rfl
 c51 := by kernel_rfl
 c53 := by kernel_rfl
 c75 := by kernel_rfl
 c80 := by kernel_rfl
 c127 := by kernel_rfl
 c143 := by kernel_rfl
 c145 := by kernel_rfl
 c167 := by kernel_rfl
 c168 := by kernel_rfl
 c171 := by kernel_rfl
 c173 := by kernel_rfl
 c210 := by kernel_rfl
 c212 := by kernel_rfl
 c213 := by kernel_rfl
 c232 := by kernel_rfl
 c233 := by kernel_rfl }
open Go.RowKit in
theorem Tryz.strconv_toError_syntax (fn s : ByteArray) (base bits : Int) (ev : Value) (w : World) (hlim : s.size ≤ 281474976710656) (hv : w.cell? ⟨1, 0, none⟩ = some ev) (hev : ev = .nilIface ∨ ∃ te pe, ev = .iface te pe) :
  Calls Tryz.prog 64 #[.string fn, .string s, .int .i64 base, .int .i64 bits, .iface 114 (.int .i64 2)] w fun e w' => ∃ N, e = .returned (.iface 118 (.pointer (some ⟨N, 0, none⟩))) ∧ w.heap.size ≤ N ∧ w'.heap[N]? = some (.cells #[.string fn, .string s, ev] 129 (0, 0)) ∧ Below w.heap.size w w' := Any.strconv_toError_syntax Tryz.laysC245 fn s base bits ev w hlim hv hev
open Go.RowKit in
theorem Tryz.strconv_toError_range (fn s : ByteArray) (base bits : Int) (ev : Value) (w : World) (hlim : s.size ≤ 281474976710656) (hv : w.cell? ⟨2, 0, none⟩ = some ev) (hev : ev = .nilIface ∨ ∃ te pe, ev = .iface te pe) :
  Calls Tryz.prog 64 #[.string fn, .string s, .int .i64 base, .int .i64 bits, .iface 114 (.int .i64 1)] w fun e w' => ∃ N, e = .returned (.iface 118 (.pointer (some ⟨N, 0, none⟩))) ∧ w.heap.size ≤ N ∧ w'.heap[N]? = some (.cells #[.string fn, .string s, ev] 129 (0, 0)) ∧ Below w.heap.size w w' := Any.strconv_toError_range Tryz.laysC245 fn s base bits ev w hlim hv hev
def Tryz.lays145_ren : Go.Shelf.Ren := ⟨fun | 145 => 129 | 220 => 133 | 219 => 135 | 217 => 138 | 225 => 139 | 224 => 140 | 267 => 141 | 266 => 144 | 314 => 145 | n => n, fun | 9 => 9 | 4 => 4 | 59 => 168 | 3 => 3 | 5 => 5 | 46 => 116 | 146 => 184 | 51 => 22 | n => n, fun | 1 => 6 | n => n⟩
theorem Tryz.lays145 : Go.Proofs.Lays.n145 Tryz.prog Tryz.lays145_ren := {
 mixed := by kernel_rfl
 f145 := Tryz.func129.trans (congrArg some (by kernel_rfl))
 f217 := Tryz.func138.trans (congrArg some (by kernel_rfl))
 f219 := Tryz.func135.trans (congrArg some (by kernel_rfl))
 f220 := Tryz.func133.trans (congrArg some (by kernel_rfl))
 f224 := Tryz.func140.trans (congrArg some (by kernel_rfl))
 f225 := Tryz.func139.trans (congrArg some (by kernel_rfl))
 f266 := Tryz.func144.trans (congrArg some (by kernel_rfl))
 f267 := Tryz.func141.trans (congrArg some (by kernel_rfl))
 f314 := Tryz.func145.trans (congrArg some (by kernel_rfl))
 t3 := Tryz.underlying3
 a3 := Tryz.isAgg3
 z3 := Tryz.sizeOf3
 v3 := Tryz.zeroValue3
 t4 := Tryz.underlying4
 a4 := Tryz.isAgg4
 z4 := Tryz.sizeOf4
 v4 := Tryz.zeroValue4
 t5 := Tryz.underlying5
 a5 := Tryz.isAgg5
 z5 := Tryz.sizeOf5
 v5 := Tryz.zeroValue5
 t9 := Tryz.underlying9
 a9 := Tryz.isAgg9
 z9 := Tryz.sizeOf9
 v9 := Tryz.zeroValue9
 t46 := Tryz.underlying116
 a46 := Tryz.isAgg116
 z46 := Tryz.sizeOf116
 v46 := Tryz.zeroValue116
 t51 := Tryz.underlying22
 a51 := Tryz.isAgg22
 z51 := Tryz.sizeOf22
 v51 := Tryz.zeroValue22
 t59 := Tryz.underlying168
 a59 := Tryz.isAgg168
 z59 := Tryz.sizeOf168
 v59 := Tryz.zeroValue168
 t146 := Tryz.underlying184
 a146 := Tryz.isAgg184
 z146 := Tryz.sizeOf184
 v146 := Tryz.zeroValue184
 g1 := by kernel_rfl }
open Go.RowKit Go.Lib in
theorem Tryz.strings_Cut (s sep : ByteArray) (m : Int) (w : World) (hs : s.size < 4294967281) (hm : w.cell? ⟨6, 0, none⟩ = some (.int .i64 m)) :
  Calls Tryz.prog 129 #[.string s, .string sep] w fun e w' => e = .returned (.tuple #[.string ⟨(Lib.cut s.data.toList sep.data.toList).1.toArray⟩, .string ⟨(Lib.cut s.data.toList sep.data.toList).2.1.toArray⟩, .bool (Lib.cut s.data.toList sep.data.toList).2.2]) ∧ ∃ n, w' = w.drewN n := Any.strings_Cut Tryz.lays145 s sep m w hs hm
end Go.Proofs
