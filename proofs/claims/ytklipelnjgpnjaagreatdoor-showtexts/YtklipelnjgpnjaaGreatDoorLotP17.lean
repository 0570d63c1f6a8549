import Derived.Test.YtklipelnjgpnjaaGreatDoorLotP16
import Derived.Deep.RegionHeld3
import Derived.Test.YtklipelnjgpnjaaGreatDoorLotP12
import Derived.Test.YtklipelnjgpnjaaGreatDoorLotP8
import Derived.Test.YtklipelnjgpnjaaGreatDoorLotP10
import Derived.Test.YtklipelnjgpnjaaGreatDoorLotP14
namespace Go.Proofs.YtklipelnjgpnjaaGreatDoor
open Go.RowKit
set_option maxRecDepth 100000
theorem full_hex (hi lo : UInt8) : fullV (256 * hi.toNat + lo.toNat) = hexS [hi, lo] := by
 have h1 := hi.toNat_lt
 have h2 := lo.toNat_lt
 simp only [fullV, hexS, List.flatMap_cons, List.flatMap_nil, List.cons_append, List.nil_append]
 rw [show (256 * hi.toNat + lo.toNat) / 4096 % 16 = hi.toNat / 16 by omega, show (256 * hi.toNat + lo.toNat) / 256 % 16 = hi.toNat % 16 by omega, show (256 * hi.toNat + lo.toNat) / 16 % 16 = lo.toNat / 16 by omega, show (256 * hi.toNat + lo.toNat) % 16 = lo.toNat % 16 by omega]
theorem strip_step (S : ByteArray) (h1 : 1 < S.size) (h : S[0] = 48) : stripV (sl S) = stripV ((sl S).drop 1) := by
 have e := sl_drop S 0 (by omega)
 rw [List.drop_zero] at e
 rw [e, stripV, if_pos ⟨h, fun e2 => by have := congrArg List.length e2; simp [sl_len] at this; omega⟩]
 rfl
theorem strip_stop (S : ByteArray) (h1 : ¬ (1 < S.size) ∨ ∃ h : 0 < S.size, S[0] ≠ 48) : stripV (sl S) = sl S := by
 cases hs : sl S with
 | nil => rfl
 | cons a r =>
  have hl : (sl S).length = S.size := sl_len S
  rw [hs] at hl
  rw [stripV, if_neg]
  rintro ⟨rfl, hr⟩
  rcases h1 with h1 | ⟨h0, h1⟩
  ·cases r with
   | nil => exact hr rfl
   | cons b r => simp at hl; omega
  ·have e := sl_drop S 0 h0
   rw [List.drop_zero, hs] at e
   exact h1 (List.cons.inj e).1.symm
set_option maxHeartbeats 1000000 in
theorem refshort_any (hi lo : UInt8) (w : World) :
  Calls Tryz.prog 128 #[.int .u8 (hi.toNat : Int), .int .u8 (lo.toNat : Int)] w fun e w' => e = .returned (str (shortV (256 * hi.toNat + lo.toNat))) ∧ w.grownBy w' none := by
 have hE : stripV (hexS [hi, lo]) = shortV (256 * hi.toNat + lo.toNat) := by rw [← full_hex]; rfl
 rw [← hE]
 clear hE
 have G0 := World.grownBy_alloc w (.cells #[.int .u8 (hi.toNat : Int), .int .u8 (lo.toNat : Int)] 5) none
 have C0 := cells_lit w [hi, lo]
 have hhl : (hexS [hi, lo]).length = 4 := hexS_len _
 obtain ⟨ans, hans⟩ : ∃ ans, stripV (hexS [hi, lo]) = ans := ⟨_, rfl⟩
 rw [hans]
 go_enter Tryz.func128, Tryz.ntmps128
 go_wp2_with fail
 refine (refhex_any (some ⟨w.heap.size, 0, none⟩) 2 [hi, lo] _ C0 (by simp)).mono ?_
 rintro e w1 ⟨rfl, K⟩
 have G1 := grown_trans G0 K
 clear C0 G0 K
 obtain ⟨S0, hS0⟩ : ∃ S0, (⟨(hexS [hi, lo]).toArray⟩ : ByteArray) = S0 := ⟨_, rfl⟩
 have HS : Hid (stripV (sl S0) = ans) := by
  show stripV (sl S0) = ans
  rw [← hS0, sl_str, hans]
 have hz : S0.size ≤ 4 := by
  have := sl_len S0
  rw [← hS0, sl_str, hhl] at this
  rw [← hS0]
  omega
 rw [hS0]
 clear hS0 hans hhl
 go_wp2
 go_loop [5] (fun x => ∃ S : ByteArray, x = .string S ∧ S.size ≤ 4 ∧ Hid (stripV (sl S) = ans)) (fun x => strLen x)
 case atStart => exact ⟨S0, rfl, hz, HS⟩
 case round =>
  clear HS hz
  obtain ⟨S, rfl, hz, HS⟩ := hrel
  by_cases h1 : 1 < S.size
  ·have h1' : (1 : Int) < (S.size : Int) := by omega
   have hb := S[0].toNat_lt
   by_cases h48 : S[0] = 48
   ·have h48' : ((S[0].toNat : Int) == 48) = true := by rw [h48]; rfl
    have HN : Hid (stripV (sl (S.extract 1 S.size)) = ans) := by
     show _ = ans
     rw [← HS.out, strip_step S h1 h48, sl_extract, List.take_of_length_le (by simp [sl_len])]
    clear HS h48
    go_wp2
    go_round
    case rel => exact ⟨S.extract 1 S.size, rfl, by rw [ByteArray.size_extract]; omega, HN⟩
    case measure => simp [strLen]; omega
   ·have h48' : ((S[0].toNat : Int) == 48) = false := by
     rw [beq_eq_false_iff_ne]
     intro h
     exact h48 (UInt8.toNat_inj.1 (by simp; omega))
    have HAN : Hid (ans = sl S) := by
     show ans = sl S
     rw [← HS.out, strip_stop S (.inr ⟨by omega, h48⟩)]
    clear HS h48
    go_wp2
    go_ret
    exact ⟨by rw [HAN.out, ← str_sl]; rfl, G1⟩
  ·have h1' : ¬ (1 : Int) < (S.size : Int) := by omega
   have HAN : Hid (ans = sl S) := by
    show ans = sl S
    rw [← HS.out, strip_stop S (.inl h1)]
   clear HS
   go_wp2
   go_ret
   exact ⟨by rw [HAN.out, ← str_sl]; rfl, G1⟩
theorem pairs_get : ∀ (n : Nat) (a : List UInt8) (ha : a.length = 2 * n) (k : Nat) (hk : k < n), (pairsG a)[k]? = some (256 * (a[2 * k]'(by omega)).toNat + (a[2 * k + 1]'(by omega)).toNat)
 | n + 1, h :: l :: r, e, 0, _ => by rw [pairsG]; rfl
 | n + 1, h :: l :: r, e, k + 1, hk => by
  rw [pairsG, List.getElem?_cons_succ, pairs_get n r (by simp at e; omega) k (by omega)]
  rfl
theorem zrow_cons (g : Nat) (r : List Nat) : zrow (g :: r) = if g = 0 then zrow r + 1 else 0 := by
 unfold zrow
 rw [List.takeWhile_cons]
 by_cases h : g = 0
 ·subst h; simp
 ·rw [if_neg (by simpa using h), if_neg h]; rfl
theorem pairs_drop {xs : List UInt8} (h16 : xs.length = 16) {k : Nat} (hk : k < 8) : (pairsG xs).drop k = (256 * (xs[2 * k]'(by omega)).toNat + (xs[2 * k + 1]'(by omega)).toNat) :: (pairsG xs).drop (k + 1) := by
 have hl := pairs_len 8 xs (by omega)
 have hg := pairs_get 8 xs (by omega) k hk
 rw [List.drop_eq_getElem_cons (by omega)]
 rw [List.getElem?_eq_getElem (by omega)] at hg
 rw [Option.some.inj hg]
set_option maxRecDepth 100000 in
set_option maxHeartbeats 1000000 in
theorem refrow_any (xs : List UInt8) (j : Nat) (w : World) (h16 : xs.length = 16) (hj : j ≤ 8) :
  Calls Tryz.prog 127 #[.agg (xs.map bv).toArray, .int .i64 (j : Int)] w fun e w' => e = .returned (.int .i64 ((zrow ((pairsG xs).drop j) : Nat) : Int)) ∧ w.grownBy w' none := by
 have H16 : Hid (xs.length = 16) := h16
 have HP : Hid ((pairsG xs).length = 8) := pairs_len 8 xs (by omega)
 clear h16
 go_enter Tryz.func127, Tryz.ntmps127
 go_upto_region 1 with fail
 have A0 := AAt.alloc w 41 xs
 have G0 := World.grownBy_alloc w (.cells (xs.map bv).toArray 41) none
 generalize w.alloc (.cells (xs.map bv).toArray 41) = wa at *
 generalize w.heap.size = A at *
 have HA0 : Hid (AAt wa A 41 xs) := A0
 clear A0
 go_wp2
 go_loop [5] (fun i => ∃ k : Nat, j ≤ k ∧ k ≤ 8 ∧ i = .int .i64 k ∧ Hid (zrow ((pairsG xs).drop j) = k - j + zrow ((pairsG xs).drop k))) (fun i => 8 - (intOf i).toNat)
 case atStart => exact ⟨j, Nat.le_refl _, hj, rfl, (by rw [Nat.sub_self, Nat.zero_add] : zrow ((pairsG xs).drop j) = j - j + zrow ((pairsG xs).drop j))⟩
 case round =>
  obtain ⟨k, hjk, hk, rfl, HZ⟩ := hrel
  by_cases hlt : k < 8
  ·have hlt' : (k : Int) < 8 := by omega
   have l1 : 2 * k < xs.length := by have := H16.out; omega
   have l2 : 2 * k + 1 < xs.length := by have := H16.out; omega
   have c1 := HA0.out.cell l1
   have c2 := HA0.out.cell l2
   have HD := pairs_drop H16.out hlt
   have b1 := xs[2 * k].toNat_lt
   have b2 := xs[2 * k + 1].toNat_lt
   have HD2 : Hid (zrow ((pairsG xs).drop k) = if 256 * xs[2 * k].toNat + xs[2 * k + 1].toNat = 0 then zrow ((pairsG xs).drop (k + 1)) + 1 else 0) := by
    show _ = _
    rw [HD, zrow_cons]
   clear HD
   have n1 : (2 * (k : Int)).toNat = 2 * k := by omega
   have n2 : (2 * (k : Int) + 1).toNat = 2 * k + 1 := by omega
   have n3 : 2 * (k : Int) < 16 := by omega
   have n4 : 2 * (k : Int) + 1 < 16 := by omega
   generalize xs[2 * k].toNat = p at *
   generalize xs[2 * k + 1].toNat = q at *
   by_cases hz : p = 0 ∧ q = 0
   ·obtain ⟨rfl, rfl⟩ := hz
    have HN : Hid (zrow ((pairsG xs).drop j) = (k + 1) - j + zrow ((pairsG xs).drop (k + 1))) := by
     show _ = _
     have := HD2.out
     rw [if_pos rfl] at this
     rw [HZ.out, this]
     omega
    clear HD2 HZ
    go_wp2
    go_round
    case rel => exact ⟨k + 1, by omega, by omega, by go_num, HN⟩
    case measure => simp [intOf]; omega
   ·have HN : Hid (zrow ((pairsG xs).drop j) = k - j) := by
     show _ = _
     have := HD2.out
     rw [if_neg (by omega)] at this
     rw [HZ.out, this]
     omega
    have hpq : ((p : Int) == 0) = false ∨ (((p : Int) == 0) = true ∧ ((q : Int) == 0) = false) := by
     by_cases hp : p = 0
     ·exact .inr ⟨by rw [hp]; rfl, by rw [beq_eq_false_iff_ne]; omega⟩
     ·exact .inl (by rw [beq_eq_false_iff_ne]; omega)
    clear HD2 HZ hz
    rcases hpq with hp | ⟨hp, hq⟩
    all_goals
     go_wp2
     go_ret
     exact ⟨ret_int (by rw [HN.out]; omega), G0⟩
  ·obtain rfl : k = 8 := by omega
   have HN : Hid (zrow ((pairsG xs).drop j) = 8 - j) := by
    show _ = _
    rw [HZ.out, List.drop_eq_nil_of_le (by have := HP.out; omega)]
    rfl
   clear HZ
   rw [show ((8 : Nat) : Int) = 8 from rfl]
   go_wp2
   go_ret
   exact ⟨ret_int (by rw [HN.out]; omega), G0⟩
abbrev Box2 (w0 : World) (a i k : Nat) (u v : Value) (W : World) : Prop := W.cell? ⟨a, i, none⟩ = some u ∧ W.cell? ⟨a, k, none⟩ = some v ∧ w0.grownBy W none
theorem box2_call {w0 W W' : World} {a i k : Nat} {u v : Value} (K : W.grownBy W' none) (h : Box2 w0 a i k u v W) : Box2 w0 a i k u v W' := ⟨K.cell h.1 (by simp), K.cell h.2.1 (by simp), grown_trans h.2.2 K⟩
theorem box2_drew {w0 : World} {a i k : Nat} {u v : Value} (h : Box2 w0 a i k u v w0) : Box2 w0 a i k u v w0.drew := ⟨h.1, h.2.1, grown_drewN w0 1 none⟩
def fromI : Option (Nat × Nat) → Int
 | none => -1
 | some p => p.1
def textTo (gs : List Nat) (acc : Option (Nat × Nat)) (j : Nat) : List UInt8 := match acc with
 | none => joinV 58 ((gs.take j).map shortV)
 | some p => if j ≤ p.1 then joinV 58 ((gs.take j).map shortV) else joinV 58 ((gs.take p.1).map shortV) ++ (58 :: 58 :: joinV 58 (((gs.drop (p.1 + p.2)).take (j - (p.1 + p.2))).map shortV))
theorem textTo_end (gs : List Nat) (hp : ∀ p, bestF 0 gs none = some p → 2 ≤ p.2 ∧ p.1 + p.2 ≤ gs.length) : textTo gs (bestF 0 gs none) gs.length = print6V gs := by
 unfold textTo print6V
 cases hb : bestF 0 gs none with
 | none => simp
 | some p =>
  have := hp p hb
  simp only
  rw [if_neg (by omega), List.take_of_length_le (i := gs.length - (p.1 + p.2)) (by rw [List.length_drop]; omega)]
theorem join_take (gs : List Nat) (j : Nat) (hj : j < gs.length) : joinV 58 ((gs.take (j + 1)).map shortV) = if j = 0 then shortV gs[j] else joinV 58 ((gs.take j).map shortV) ++ (58 :: shortV gs[j]) := by
 rw [List.take_succ_eq_append_getElem hj, List.map_append, List.map_cons, List.map_nil, join_snoc]
 by_cases h : j = 0
 ·subst h; simp
 ·rw [if_neg h, if_neg]
  rw [List.map_eq_nil_iff, List.take_eq_nil_iff]
  rintro (h' | h')
  ·exact h h'
  ·rw [h'] at hj; simp at hj
theorem textTo_len (gs : List Nat) (acc : Option (Nat × Nat)) (j : Nat) : (textTo gs acc j).length ≤ 10 * gs.length + 2 := by
 have hl : ∀ zs : List Nat, zs.length ≤ gs.length → (joinV 58 (zs.map shortV)).length ≤ 5 * gs.length := fun zs hz => by
  have := join_len 58 (zs.map shortV) 4 (fun l hl => by
   obtain ⟨g, -, rfl⟩ := List.mem_map.1 hl
   exact (short_piece g).2.2.1)
  rw [List.length_map] at this
  omega
 unfold textTo
 cases acc with
 | none =>
  simp only
  have := hl (gs.take j) (by rw [List.length_take]; omega)
  omega
 | some p =>
  simp only
  split
  ·have := hl (gs.take j) (by rw [List.length_take]; omega)
   omega
  ·have h1 := hl (gs.take p.1) (by rw [List.length_take]; omega)
   have h2 := hl ((gs.drop (p.1 + p.2)).take (j - (p.1 + p.2))) (by rw [List.length_take, List.length_drop]; omega)
   simp only [List.length_append, List.length_cons]
   omega
def sepB (acc : Option (Nat × Nat)) (j : Nat) : Bool := decide (0 < j) && decide ((j : Int) ≠ fromI acc + (longOf acc : Int))
theorem textTo_next (gs : List Nat) (acc : Option (Nat × Nat)) (j : Nat) (hj : j < gs.length) (hin : ∀ p, acc = some p → 2 ≤ p.2 ∧ (j < p.1 ∨ p.1 + p.2 ≤ j)) :
  textTo gs acc (j + 1) = textTo gs acc j ++ ((if sepB acc j = true then [58] else []) ++ shortV gs[j]) := by
 cases acc with
 | none =>
  have hs : sepB none j = decide (0 < j) := by
   show (decide (0 < j) && decide ((j : Int) ≠ -1 + 1)) = _
   by_cases h : 0 < j
   ·rw [decide_eq_true h, decide_eq_true (by omega)]; rfl
   ·rw [decide_eq_false h]; rfl
  rw [hs]
  simp only [textTo]
  rw [join_take gs j hj]
  by_cases h : j = 0
  ·subst h; simp [joinV]
  ·rw [if_neg h, if_pos (decide_eq_true (by omega))]; rfl
 | some p =>
  obtain ⟨h2, hc⟩ := hin p rfl
  rcases hc with hc | hc
  ·have hs : sepB (some p) j = decide (0 < j) := by
    show (decide (0 < j) && decide ((j : Int) ≠ (p.1 : Int) + (p.2 : Int))) = _
    rw [decide_eq_true (p := (j : Int) ≠ (p.1 : Int) + (p.2 : Int)) (by omega), Bool.and_true]
   rw [hs]
   simp only [textTo]
   rw [if_pos (by omega), if_pos (by omega), join_take gs j hj]
   by_cases h : j = 0
   ·subst h; simp [joinV]
   ·rw [if_neg h, if_pos (decide_eq_true (by omega))]; rfl
  ·have hj' : j - (p.1 + p.2) < (gs.drop (p.1 + p.2)).length := by rw [List.length_drop]; omega
   have e : (gs.drop (p.1 + p.2))[j - (p.1 + p.2)] = gs[j] := by
    rw [List.getElem_drop]
    congr 1
    omega
   have hs : sepB (some p) j = decide (j ≠ p.1 + p.2) := by
    show (decide (0 < j) && decide ((j : Int) ≠ (p.1 : Int) + (p.2 : Int))) = _
    rw [decide_eq_true (p := 0 < j) (by omega), Bool.true_and, decide_eq_decide]
    omega
   rw [hs]
   simp only [textTo]
   rw [if_neg (by omega), if_neg (by omega), show j + 1 - (p.1 + p.2) = (j - (p.1 + p.2)) + 1 by omega, join_take _ _ hj', e]
   by_cases h : j = p.1 + p.2
   ·rw [if_pos (by omega), if_neg (by simpa using h)]
    subst h
    simp [joinV]
   ·rw [if_neg (by omega), if_pos (decide_eq_true h)]
    simp
theorem textTo_gap (gs : List Nat) (p : Nat × Nat) (h : 2 ≤ p.2) : textTo gs (some p) (p.1 + p.2) = textTo gs (some p) p.1 ++ [58, 58] := by
 simp only [textTo]
 rw [if_neg (by omega), if_pos (Nat.le_refl _), Nat.sub_self, List.take_zero]
 rfl
set_option maxRecDepth 100000 in
set_option maxHeartbeats 2000000 in
theorem refprint6_any (xs : List UInt8) (w : World) (h16 : xs.length = 16) :
  Calls Tryz.prog 92 #[.agg (xs.map bv).toArray] w fun e w' => e = .returned (str (print6V (pairsG xs))) ∧ w.grownBy w' none := by
 have H16 : Hid (xs.length = 16) := h16
 have hP8 := pairs_len 8 xs (by omega)
 have HP : Hid ((pairsG xs).length = 8) := hP8
 have HB : Hid (∀ p, bestF 0 (pairsG xs) none = some p → 2 ≤ p.2 ∧ p.1 + p.2 ≤ 8) := fun p hp => by
  have := best_row _ p hp
  exact ⟨this.1, by omega⟩
 have HE := textTo_end (pairsG xs) (fun p hp => by have := best_row _ p hp; exact ⟨this.1, this.2.1⟩)
 rw [hP8] at HE
 rw [← HE]
 clear h16 hP8 HE
 have CR : Hid (∀ (j : Nat) (W : World), j ≤ 8 → Calls Tryz.prog 127 #[.agg (xs.map bv).toArray, .int .i64 (j : Int)] W fun e w' => e = .returned (.int .i64 ((zrow ((pairsG xs).drop j) : Nat) : Int)) ∧ W.grownBy w' none) := fun j W hj => refrow_any xs j W H16.out hj
 have HPD : Hid (∀ k (hk : k < 8), (pairsG xs).drop k = (256 * (xs[2 * k]'(by have := H16.out; omega)).toNat + (xs[2 * k + 1]'(by have := H16.out; omega)).toNat) :: (pairsG xs).drop (k + 1)) := fun k hk => pairs_drop H16.out hk
 go_enter Tryz.func92, Tryz.ntmps92
 go_upto_region 1 with fail
 have A0 := AAt.alloc w 41 xs
 have G0 := World.grownBy_alloc w (.cells (xs.map bv).toArray 41) none
 generalize w.alloc (.cells (xs.map bv).toArray 41) = wa at *
 generalize w.heap.size = A at *
 have HA0 : Hid (AAt wa A 41 xs) := A0
 have HZ1 : Hid ((Tryz.prog.info? 41).map (·.size) = some (xs.map bv).toArray.size) := by
  show _ = _
  rw [bv_size, H16.out]
  exact size41
 clear A0
 go_wp2
 go_loopw [3, 4, 5] (fun f l i wr => ∃ (j : Nat) (acc : Option (Nat × Nat)), j ≤ 8 ∧ longOf acc ≤ 8 ∧ i = .int .i64 j ∧ f = .int .i64 (fromI acc) ∧ l = .int .i64 (longOf acc : Int) ∧ Hid (bestF j ((pairsG xs).drop j) acc = bestF 0 (pairsG xs) none) ∧ wa.grownBy wr none) (fun _ _ i _ => 8 - (intOf i).toNat)
 case atStart => exact ⟨0, none, Nat.zero_le _, by decide, rfl, rfl, rfl, rfl, World.grownBy.refl _ _⟩
 case round =>
  obtain ⟨j, acc, hj, hl8, rfl, rfl, rfl, HBF, G⟩ := hrel
  by_cases hlt : j < 8
  ·have hlt' : (j : Int) < 8 := by omega
   have AW := HA0.out.grown G (by simp)
   have hzl := zrow_le ((pairsG xs).drop j)
   rw [List.length_drop] at hzl
   have hz8 : zrow ((pairsG xs).drop j) ≤ 8 := by have := HP.out; omega
   have HN : Hid (bestF (j + 1) ((pairsG xs).drop (j + 1)) (if longOf acc < zrow ((pairsG xs).drop j) then some (j, zrow ((pairsG xs).drop j)) else acc) = bestF 0 (pairsG xs) none) := by
    show _ = _
    rw [← HBF.out, HPD.out j hlt, bestF]
   have CR1 := fun W => CR.out j W (by omega)
   clear hzl HBF
   generalize zrow ((pairsG xs).drop j) = z at *
   by_cases hz : longOf acc < z
   ·have hz' : (longOf acc : Int) < (z : Int) := by omega
    have HN2 : Hid (bestF (j + 1) ((pairsG xs).drop (j + 1)) (some (j, z)) = bestF 0 (pairsG xs) none) := by
     show _ = _
     rw [← HN.out, if_pos hz]
    clear HN hz
    go_wp2_with (first | (refine wpList_load_row rfl 41 (.tmp 1) rfl A rfl 41 (xs.map bv).toArray (0, 0) _ AW Tryz.underlying41 rfl HZ1.out ?_) | (go_at_call 127; refine (CR1 _).mono ?_; rintro e w' ⟨rfl, K⟩; have AW := AAt.grown (by assumption : AAt _ A 41 xs) K (by simp); have GW := grown_trans (by assumption : wa.grownBy _ none) K))
    go_roundw
    case rel => exact ⟨j + 1, some (j, z), by omega, hz8, by go_num, rfl, rfl, HN2, GW⟩
    case measure => simp [intOf]; omega
   ·have hz' : ¬ (longOf acc : Int) < (z : Int) := by omega
    have HN2 : Hid (bestF (j + 1) ((pairsG xs).drop (j + 1)) acc = bestF 0 (pairsG xs) none) := by
     show _ = _
     rw [← HN.out, if_neg hz]
    clear HN hz
    go_wp2_with (first | (refine wpList_load_row rfl 41 (.tmp 1) rfl A rfl 41 (xs.map bv).toArray (0, 0) _ AW Tryz.underlying41 rfl HZ1.out ?_) | (go_at_call 127; refine (CR1 _).mono ?_; rintro e w' ⟨rfl, K⟩; have AW := AAt.grown (by assumption : AAt _ A 41 xs) K (by simp); have GW := grown_trans (by assumption : wa.grownBy _ none) K))
    go_roundw
    case rel => exact ⟨j + 1, acc, by omega, hl8, by go_num, rfl, rfl, HN2, GW⟩
    case measure => simp [intOf]; omega
  ·obtain rfl : j = 8 := by omega
   have hacc : acc = bestF 0 (pairsG xs) none := by
    rw [← HBF.out, List.drop_eq_nil_of_le (by have := HP.out; omega)]
    rfl
   have HB2 : Hid (∀ p, acc = some p → 2 ≤ p.2 ∧ p.1 + p.2 ≤ 8) := by rw [hacc]; exact HB
   have HACC : Hid (acc = bestF 0 (pairsG xs) none) := hacc
   clear hacc HBF HB CR
   have HTN : Hid (∀ j (hj : j < 8), (∀ p, acc = some p → j < p.1 ∨ p.1 + p.2 ≤ j) → textTo (pairsG xs) acc (j + 1) = textTo (pairsG xs) acc j ++ ((if sepB acc j = true then [58] else []) ++ shortV (256 * (xs[2 * j]'(by have := H16.out; omega)).toNat + (xs[2 * j + 1]'(by have := H16.out; omega)).toNat))) := fun j hj hin => by
    have hl : j < (pairsG xs).length := by have := HP.out; omega
    have := textTo_next (pairsG xs) acc j hl (fun p hp => ⟨(HB2.out p hp).1, hin p hp⟩)
    rw [this]
    have e := pairs_get 8 xs (by have := H16.out; omega) j hj
    rw [List.getElem?_eq_getElem hl] at e
    rw [Option.some.inj e]
   have HTL : Hid (∀ j, (textTo (pairsG xs) acc j).length ≤ 82) := fun j => by
    have := textTo_len (pairsG xs) acc j
    rw [HP.out] at this
    exact this
   have HTG : Hid (∀ p, acc = some p → textTo (pairsG xs) acc (p.1 + p.2) = textTo (pairsG xs) acc p.1 ++ [58, 58]) := fun p hp => by
    subst hp
    exact textTo_gap _ p (HB2.out p rfl).1
   have HT0 : Hid (textTo (pairsG xs) acc 0 = []) := by
    show _ = _
    unfold textTo
    cases acc with
    | none => rfl
    | some p => simp only; rw [if_pos (Nat.zero_le _)]; rfl
   rw [show ((8 : Nat) : Int) = 8 from rfl]
   obtain ⟨wo, rfl⟩ : ∃ wo : World, wo = wr := ⟨_, rfl⟩
   have HAO : Hid (AAt wo A 41 xs) := HA0.out.grown G (by simp)
   have GO := grown_trans G0 G
   clear HA0 G G0
   go_wp2
   go_loopw [6, 7] (fun x i wr => ∃ (j : Nat), j ≤ 8 ∧ i = .int .i64 j ∧ x = str (textTo (pairsG xs) acc j) ∧ Hid (∀ p, acc = some p → j ≤ p.1 ∨ p.1 + p.2 ≤ j) ∧ wo.grownBy wr none) (fun _ i _ => 8 - (intOf i).toNat)
   case atStart => exact ⟨0, Nat.zero_le _, rfl, by rw [HT0.out], fun p _ => .inl (Nat.zero_le _), World.grownBy.refl _ _⟩
   case round =>
    clear HT0
    obtain ⟨j, hj, rfl, rfl, HIN, K⟩ := hrel
    have htl := HTL.out j
    by_cases hlt : j < 8
    ·have hlt' : (j : Int) < 8 := by omega
     by_cases hf : ∃ p, acc = some p ∧ p.1 = j
     ·obtain ⟨p, hp, rfl⟩ := hf
      have hpp := HB2.out p hp
      have hg := HTG.out p hp
      have HG : Hid (textTo (pairsG xs) acc (p.1 + p.2) = textTo (pairsG xs) acc p.1 ++ [58, 58]) := hg
      have HA2 : Hid (∀ q, acc = some q → p.1 + p.2 ≤ q.1 ∨ q.1 + q.2 ≤ p.1 + p.2) := fun q hq => by
       rw [hp] at hq
       cases hq
       exact .inr (Nat.le_refl _)
      have f1 : fromI acc = (p.1 : Int) := by rw [hp]; rfl
      have f2 : longOf acc = p.2 := by rw [hp]; rfl
      rw [f1, f2]
      clear f1 f2 hg hp HIN
      generalize textTo (pairsG xs) acc p.1 = t at *
      go_wp2
      go_roundw
      case rel => exact ⟨p.1 + p.2, by omega, by go_num, by rw [HG.out, cat], HA2, K⟩
      case measure => simp [intOf]; omega
     ·have hne : ((j : Int) == fromI acc) = false := by
       rw [beq_eq_false_iff_ne]
       intro e
       cases acc with
       | none => simp only [fromI] at e; omega
       | some p => simp only [fromI] at e; exact hf ⟨p, rfl, by omega⟩
      have hin2 : ∀ p, acc = some p → j < p.1 ∨ p.1 + p.2 ≤ j := fun p hp => by
       rcases HIN.out p hp with h | h
       ·left
        rcases Nat.lt_or_eq_of_le h with h | h
        ·exact h
        ·exact absurd ⟨p, hp, h.symm⟩ hf
       ·exact .inr h
      have HA2 : Hid (∀ p, acc = some p → j + 1 ≤ p.1 ∨ p.1 + p.2 ≤ j + 1) := fun p hp => by
       rcases hin2 p hp with h | h
       ·exact .inl h
       ·exact .inr (by omega)
      have l1 : 2 * j < xs.length := by have := H16.out; omega
      have l2 : 2 * j + 1 < xs.length := by have := H16.out; omega
      have c1 := (HAO.out.grown K (by simp)).cell l1
      have c2 := (HAO.out.grown K (by simp)).cell l2
      have HN := HTN.out j hlt hin2
      have n1 : (2 * (j : Int)).toNat = 2 * j := by omega
      have n2 : (2 * (j : Int) + 1).toNat = 2 * j + 1 := by omega
      have n3 : 2 * (j : Int) < 16 := by omega
      have n4 : 2 * (j : Int) + 1 < 16 := by omega
      have n5 : (0 : Int) ≤ 2 * (j : Int) := by omega
      have n6 : (0 : Int) ≤ 2 * (j : Int) + 1 := by omega
      have m1 : IntKind.i64.wrap (2 * (j : Int)) = 2 * (j : Int) := by rw [IntKind.wrap_i64]; omega
      have m2 : IntKind.i64.wrap (2 * (j : Int) + 1) = 2 * (j : Int) + 1 := by rw [IntKind.wrap_i64]; omega
      have hsl := (short_piece (256 * xs[2 * j].toNat + xs[2 * j + 1].toNat)).2.2.1
      generalize xs[2 * j] = p at *
      generalize xs[2 * j + 1] = q at *
      have CSH := fun W => refshort_any p q W
      clear hf hin2 HIN
      cases hsep : sepB acc j with
      | true =>
       rw [hsep, if_pos rfl] at HN
       have HN2 : Hid (textTo (pairsG xs) acc (j + 1) = textTo (pairsG xs) acc j ++ ([58] ++ shortV (256 * p.toNat + q.toNat))) := HN
       clear HN
       have s1 : (0 : Int) < (j : Int) ∧ ((j : Int) != fromI acc + (longOf acc : Int)) = true := by
        simp only [sepB, Bool.and_eq_true, decide_eq_true_eq] at hsep
        exact ⟨by omega, by rw [bne_iff_ne]; exact hsep.2⟩
       obtain ⟨s1, s2⟩ := s1
       clear hsep
       have hF1 : -1 ≤ fromI acc := by cases acc <;> simp only [fromI] <;> omega
       have hF2 : fromI acc ≤ 8 := by
        cases hacc : acc with
        | none => simp only [fromI]; omega
        | some p => have := (HB2.out p hacc).2; simp only [fromI]; omega
       generalize textTo (pairsG xs) acc j = t at *
       generalize fromI acc = F at *
       generalize longOf acc = L at *
       generalize shortV (256 * p.toNat + q.toNat) = sh at *
       have B0 : Box2 wr A (2 * j) (2 * j + 1) (.int .u8 (p.toNat : Int)) (.int .u8 (q.toNat : Int)) wr := ⟨c1, c2, World.grownBy.refl _ _⟩
       have hbig : ¬ 9223372036854775807 < t.length + 1 + sh.length := by omega
       go_upto_region 17 with fail
       go_region_held3 (fun W => W.cell? ⟨A, 2 * j, none⟩ = some (.int .u8 (p.toNat : Int)) ∧ W.cell? ⟨A, 2 * j + 1, none⟩ = some (.int .u8 (q.toNat : Int)) ∧ wr.grownBy W none) (first | exact box2_call KK (by assumption) | (with_reducible assumption) | exact box2_drew B0) (first | (go_at_call 128; refine (CSH _).mono ?_; rintro e w' ⟨rfl, KK⟩))
       have HH := (by assumption : Box2 wr A (2 * j) (2 * j + 1) (.int .u8 (p.toNat : Int)) (.int .u8 (q.toNat : Int)) w')
       have KN := grown_trans K HH.2.2
       clear B0 HH KK
       go_wp2
       go_roundw
       case rel => exact ⟨j + 1, by omega, by go_num, by rw [HN2.out, cat, cat, List.append_assoc], HA2, KN⟩
       case measure => simp [intOf]; omega
      | false =>
       rw [hsep, if_neg (by simp)] at HN
       have HN2 : Hid (textTo (pairsG xs) acc (j + 1) = textTo (pairsG xs) acc j ++ shortV (256 * p.toNat + q.toNat)) := HN
       clear HN
       have hs : (¬ (0 : Int) < (j : Int)) ∨ ((0 : Int) < (j : Int) ∧ ((j : Int) != fromI acc + (longOf acc : Int)) = false) := by
        simp only [sepB, Bool.and_eq_false_iff, decide_eq_false_iff_not] at hsep
        by_cases h0 : 0 < j
        ·refine .inr ⟨by omega, ?_⟩
         rcases hsep with h | h
         ·omega
         ·cases hb : ((j : Int) != fromI acc + (longOf acc : Int)) with
          | false => rfl
          | true => exact absurd (bne_iff_ne.1 hb) h
        ·exact .inl (by omega)
       clear hsep
       have hF1 : -1 ≤ fromI acc := by cases acc <;> simp only [fromI] <;> omega
       have hF2 : fromI acc ≤ 8 := by
        cases hacc : acc with
        | none => simp only [fromI]; omega
        | some p => have := (HB2.out p hacc).2; simp only [fromI]; omega
       generalize textTo (pairsG xs) acc j = t at *
       generalize fromI acc = F at *
       generalize longOf acc = L at *
       generalize shortV (256 * p.toNat + q.toNat) = sh at *
       have B0 : Box2 wr A (2 * j) (2 * j + 1) (.int .u8 (p.toNat : Int)) (.int .u8 (q.toNat : Int)) wr := ⟨c1, c2, World.grownBy.refl _ _⟩
       have hbig : ¬ 9223372036854775807 < t.length + sh.length := by omega
       rcases hs with s1 | ⟨s1, s2⟩
       ·go_upto_region 17 with fail
        go_region_held3 (fun W => W.cell? ⟨A, 2 * j, none⟩ = some (.int .u8 (p.toNat : Int)) ∧ W.cell? ⟨A, 2 * j + 1, none⟩ = some (.int .u8 (q.toNat : Int)) ∧ wr.grownBy W none) (first | exact box2_call KK (by assumption) | (with_reducible assumption) | exact box2_drew B0) (first | (go_at_call 128; refine (CSH _).mono ?_; rintro e w' ⟨rfl, KK⟩))
        have HH := (by assumption : Box2 wr A (2 * j) (2 * j + 1) (.int .u8 (p.toNat : Int)) (.int .u8 (q.toNat : Int)) w')
        have KN := grown_trans K HH.2.2
        clear B0 HH KK
        go_wp2
        go_roundw
        case rel => exact ⟨j + 1, by omega, by go_num, by rw [HN2.out, cat], HA2, KN⟩
        case measure => simp [intOf]; omega
       ·go_upto_region 17 with fail
        go_region_held3 (fun W => W.cell? ⟨A, 2 * j, none⟩ = some (.int .u8 (p.toNat : Int)) ∧ W.cell? ⟨A, 2 * j + 1, none⟩ = some (.int .u8 (q.toNat : Int)) ∧ wr.grownBy W none) (first | exact box2_call KK (by assumption) | (with_reducible assumption) | exact box2_drew B0) (first | (go_at_call 128; refine (CSH _).mono ?_; rintro e w' ⟨rfl, KK⟩))
        have HH := (by assumption : Box2 wr A (2 * j) (2 * j + 1) (.int .u8 (p.toNat : Int)) (.int .u8 (q.toNat : Int)) w')
        have KN := grown_trans K HH.2.2
        clear B0 HH KK
        go_wp2
        go_roundw
        case rel => exact ⟨j + 1, by omega, by go_num, by rw [HN2.out, cat], HA2, KN⟩
        case measure => simp [intOf]; omega
    ·obtain rfl : j = 8 := by omega
     rw [show ((8 : Nat) : Int) = 8 from rfl]
     go_wp2
     go_ret
     exact ⟨by rw [← HACC.out]; rfl, grown_trans GO K⟩
theorem box_adr (x : Ng) (W : World) : (Instr.box 41 (.agg ((adgs x).map bv).toArray)).run Tryz.prog W = .ok (.pointer (some ⟨W.heap.size, 0, none⟩)) (W.alloc (.cells ((adgs x).map bv).toArray 41)) := by kernel_rfl
theorem short_iff {l : List UInt8} (hl : l.length = 16) : l.drop 4 = zeros 12 ↔ ∀ j (h : j < l.length), 4 ≤ j → l[j] = 0 := by
 constructor
 ·intro h j hj h4
  have e : (l.drop 4)[j - 4]? = some 0 := by
   rw [h]
   unfold zeros
   rw [List.getElem?_replicate, if_pos (by omega)]
  rw [List.getElem?_drop, show 4 + (j - 4) = j by omega, List.getElem?_eq_getElem hj] at e
  exact Option.some.inj e
 ·intro h
  refine List.ext_getElem (by rw [List.length_drop, hl]; simp [zeros]) fun i h1 h2 => ?_
  rw [List.length_drop] at h1
  rw [List.getElem_drop, h (4 + i) (by omega) (by omega)]
  exact (List.eq_of_mem_replicate (n := 12) (a := (0 : UInt8)) (List.getElem_mem h2)).symm
set_option maxHeartbeats 4000000 in
theorem short12_any (x : Ng) (w : World) : Calls Tryz.prog 197 #[.agg ((adgs x).map bv).toArray] w fun e w' => e = .returned (.bool (decide ((adgs x).drop 4 = zeros 12))) ∧ w.grownBy w' none := by
 have HBX := box_adr x
 have h3 := World.grownBy_alloc w (.cells ((adgs x).map bv).toArray 41) none
 have V := VAt.alloc w 41 ((adgs x).map bv).toArray
 have HL : Hid ((adgs x).length = 16) := adgs_len x
 obtain ⟨E, hE⟩ : ∃ E, decide ((adgs x).drop 4 = zeros 12) = E := ⟨_, rfl⟩
 rw [hE]
 have HE : Hid (decide ((adgs x).drop 4 = zeros 12) = E) := hE
 obtain ⟨l, hl⟩ : ∃ l, adgs x = l := ⟨_, rfl⟩
 rw [hl] at HBX h3 V HL HE ⊢
 obtain ⟨X, hX⟩ : ∃ X, (l.map bv).toArray = X := ⟨_, rfl⟩
 rw [hX] at HBX h3 V ⊢
 have HX : Hid ((l.map bv).toArray = X) := hX
 clear hE hl hX
 go_enter Tryz.func197, Tryz.ntmps197
 go_upto_region 1 with fail
 generalize w.alloc (.cells X 41) = w1 at *
 generalize w.heap.size = B at *
 have HV : Hid (VAt w1 B 41 X) := V
 clear HBX V
 go_wp2
 go_loopw [3] (fun i wr => ∃ k : Nat, 4 ≤ k ∧ k ≤ 16 ∧ i = .int .i64 k ∧ Hid (∀ j (h : j < l.length), 4 ≤ j → j < k → l[j] = 0) ∧ wr = w1) (fun i _ => 16 - (intOf i).toNat)
 case atStart => exact ⟨4, Nat.le_refl _, by omega, rfl, fun j h h4 h5 => by omega, rfl⟩
 case round =>
  obtain ⟨k, h4, hk, rfl, H1, rfl⟩ := hrel
  by_cases hlt : k < 16
  ·have hkl : k < l.length := by rw [HL.out]; exact hlt
   have c0 : wr.cell? ⟨B, k, none⟩ = some (.int .u8 (l[k].toNat : Int)) := by
    rw [VAt.cell HV.out k, ← HX.out]
    simp [bv, hkl]
   have hl : (k : Int) < 16 := by omega
   have z0 : (0 : Int) ≤ (k : Int) := by omega
   have w3 : IntKind.i64.wrap ((k : Int) + 1) = (k : Int) + 1 := by rw [IntKind.wrap_i64]; omega
   by_cases h0 : l[k] = 0
   ·have n0 : (((l[k].toNat : Nat) : Int) != 0) = false := by rw [h0]; rfl
    have H2 : Hid (∀ j (h : j < l.length), 4 ≤ j → j < k + 1 → l[j] = 0) := fun j h h4' h5 => by
     by_cases e : j = k
     ·subst e; exact h0
     ·exact H1.out j h h4' (by omega)
    generalize ((l[k].toNat : Nat) : Int) = y at *
    clear h0 H1
    go_wp2
    go_roundw
    case rel => exact ⟨k + 1, by omega, by omega, by go_num, H2, trivial⟩
    case measure => simp [intOf]; omega
   ·have n0 : (((l[k].toNat : Nat) : Int) != 0) = true := by
     rw [bne_iff_ne]
     intro e
     exact h0 (UInt8.toNat_inj.1 (by simpa using e))
    obtain rfl : E = false := by
     rw [← HE.out, decide_eq_false_iff_not]
     intro e
     exact h0 ((short_iff HL.out).1 e k hkl h4)
    generalize ((l[k].toNat : Nat) : Int) = y at *
    clear h0 H1
    go_wp2
    go_ret
    exact ⟨rfl, h3⟩
  ·have hl : ¬ (k : Int) < 16 := by omega
   obtain rfl : E = true := by
    rw [← HE.out, decide_eq_true_iff]
    exact (short_iff HL.out).2 fun j h h4' => H1.out j h h4' (by have := HL.out; omega)
   clear H1
   go_wp2
   go_ret
   exact ⟨rfl, h3⟩
def bareG (x : Ng) : Ng :=
 if x.kind = 1 ∨ x.kind = 12 then { x with n := 0 }
 else if x.kind = 3 then { x with of := 0, size := 0 }
 else if x.kind = 4 ∨ x.kind = 6 then { x with op := 0 }
 else if x.kind = 10 then { x with side := 0 }
 else if x.kind = 11 then { x with of := 0 }
 else if x.kind = 13 then { x with of := 0, n := 0 }
 else if x.kind = 14 then { x with of := 0, side := 0, addr := zeros 16 }
 else if x.kind = 15 then { x with of := 0, side := 0, addr := zeros 16, bits := 0 }
 else if x.kind = 16 then { x with of := 0, side := 0, n := 0, m := 0 }
 else x
def tykindN (k : Int) : Ng := ⟨k, 0, 0, 0, 0, 0, 0, zeros 16, 0⟩
theorem sameG_mk (k1 op1 n1 m1 s1 o1 d1 ad1 b1 k2 op2 n2 m2 s2 o2 d2 ad2 b2) : sameG ⟨k1, op1, n1, m1, s1, o1, d1, ad1, b1⟩ ⟨k2, op2, n2, m2, s2, o2, d2, ad2, b2⟩ = (decide (k1 = k2) && decide (op1 = op2) && decide (n1 = n2) && decide (m1 = m2) && decide (s1 = s2) && decide (o1 = o2) && decide (d1 = d2) && decide (adgs ⟨0, 0, 0, 0, 0, 0, 0, ad1, 0⟩ = adgs ⟨0, 0, 0, 0, 0, 0, 0, ad2, 0⟩) && decide (b1 = b2)) := rfl
theorem bare_form (x : Ng) : sameG (bareG x) (tykindN x.kind) = sameG x (useG x) := by
 obtain ⟨k, op, n, m, s, o, d, ad, b⟩ := x
 unfold bareG useG tykindN
 simp only
 by_cases h1 : k = 1 ∨ k = 12
 ·rw [if_pos h1, if_pos h1, sameG_mk, sameG_mk]; simp
 rw [if_neg h1, if_neg h1]
 by_cases h3 : k = 3
 ·rw [if_pos h3, if_pos h3, sameG_mk, sameG_mk]; simp
 rw [if_neg h3, if_neg h3]
 by_cases h4 : k = 4 ∨ k = 6
 ·rw [if_pos h4, if_pos h4, sameG_mk, sameG_mk]; simp
 rw [if_neg h4, if_neg h4]
 by_cases h10 : k = 10
 ·rw [if_pos h10, if_pos h10, sameG_mk, sameG_mk]; simp
 rw [if_neg h10, if_neg h10]
 by_cases h11 : k = 11
 ·rw [if_pos h11, if_pos h11, sameG_mk, sameG_mk]; simp
 rw [if_neg h11, if_neg h11]
 by_cases h13 : k = 13
 ·rw [if_pos h13, if_pos h13, sameG_mk, sameG_mk]; simp
 rw [if_neg h13, if_neg h13]
 by_cases h14 : k = 14
 ·rw [if_pos h14, if_pos h14, sameG_mk, sameG_mk]; simp
 rw [if_neg h14, if_neg h14]
 by_cases h15 : k = 15
 ·rw [if_pos h15, if_pos h15, sameG_mk, sameG_mk]; simp
 rw [if_neg h15, if_neg h15]
 by_cases h16 : k = 16
 ·rw [if_pos h16, if_pos h16, sameG_mk, sameG_mk]; simp
 rw [if_neg h16, if_neg h16]
theorem ret_rowT {P : Program} {fn : Func} {p u : Tmp} {ty : TypeId} (h : fn.results = #[.cell p ty, .tmp u]) (tmps : Array Value) (w : World) (g : Nat) (cs : Array Value) (d : TypeDesc) (hp : tmps.getD p undef = .pointer (some ⟨g, 0, none⟩)) (A : VAt w g ty cs)
  (hu : P.underlying ty = some d) (hd : (match d with | .struct _ | .array _ _ => true | _ => false) = true) (hi : (P.info? ty).map (·.size) = some cs.size) : (results fn tmps).run P w = .ok (.tuple #[.agg cs, tmps.getD u undef]) w := by
 rw [results_cell_tmp h, hp]
 have := run_loadVar_row (P := P) w g ty ty cs (0, 0) _ A hu hd hi
 simp only [asAddr, Sem.run_pure, Result.andThen, this]
def BW (w W : World) (B : Nat) (y : Ng) : Prop := NB W B y ∧ NB W (B + 1) ngZ ∧ w.grownBy W none
theorem nb_other {W : World} {B C j : Nat} {x : Ng} {v : Value} (h : NB W B x) (hk : B ≠ C) : NB (W.setCell ⟨C, j, none⟩ v) B x := by
 unfold NB VAt at *
 simp only [World.setCell, Array.getElem?_modify, if_neg (Ne.symm hk)]
 exact h
theorem BW.set {w W : World} {B : Nat} {y z : Ng} (h : BW w W B y) (hB : w.heap.size ≤ B) (j : Nat) (v : Value) (e : y.cells.toArray.setIfInBounds j v = z.cells.toArray) : BW w (W.setCell ⟨B, j, none⟩ v) B z := by
 refine ⟨?_, nb_other h.2.1 (by omega), grown_setCell h.2.2 _ _ (.inr hB)⟩
 have := VAt.set h.1 j v
 rw [e] at this
 exact this
def zA : Array Value := #[.int .u8 0, .int .u8 0, .int .u8 0, .int .u8 0, .int .u8 0, .int .u8 0, .int .u8 0, .int .u8 0, .int .u8 0, .int .u8 0, .int .u8 0, .int .u8 0, .int .u8 0, .int .u8 0, .int .u8 0, .int .u8 0]
theorem zA_size : (Tryz.prog.info? 41).map (·.size) = some zA.size := by kernel_rfl
theorem zA_all : zA.all (·.oneCell') = true := by simp [zA, Value.oneCell']
theorem BW.there {w W : World} {B : Nat} {y : Ng} (h : BW w W B y) : W.there B 7 zA.size := fun j hj => by
 have hj : j < 16 := hj
 refine ⟨?_, VAt.free h.1 _⟩
 rw [VAt.cell h.1 (7 + j)]
 have : j = 0 ∨ j = 1 ∨ j = 2 ∨ j = 3 ∨ j = 4 ∨ j = 5 ∨ j = 6 ∨ j = 7 ∨ j = 8 ∨ j = 9 ∨ j = 10 ∨ j = 11 ∨ j = 12 ∨ j = 13 ∨ j = 14 ∨ j = 15 := by omega
 rcases this with rfl | rfl | rfl | rfl | rfl | rfl | rfl | rfl | rfl | rfl | rfl | rfl | rfl | rfl | rfl | rfl <;> rfl
theorem BW.setA {w W : World} {B : Nat} {y z : Ng} (h : BW w W B y) (hB : w.heap.size ≤ B) (e : z = { y with addr := zeros 16 }) : BW w (W.setCells B 7 zA.toList) B z := by
 subst e
 have h0 := h.set (z := { y with addr := (0 : UInt8) :: (adgs y).drop 1 }) hB 7 (.int .u8 0) rfl
 have h1 := h0.set (z := { y with addr := 0 :: 0 :: (adgs y).drop 2 }) hB 8 (.int .u8 0) rfl
 have h2 := h1.set (z := { y with addr := 0 :: 0 :: 0 :: (adgs y).drop 3 }) hB 9 (.int .u8 0) rfl
 have h3 := h2.set (z := { y with addr := 0 :: 0 :: 0 :: 0 :: (adgs y).drop 4 }) hB 10 (.int .u8 0) rfl
 have h4 := h3.set (z := { y with addr := 0 :: 0 :: 0 :: 0 :: 0 :: (adgs y).drop 5 }) hB 11 (.int .u8 0) rfl
 have h5 := h4.set (z := { y with addr := 0 :: 0 :: 0 :: 0 :: 0 :: 0 :: (adgs y).drop 6 }) hB 12 (.int .u8 0) rfl
 have h6 := h5.set (z := { y with addr := 0 :: 0 :: 0 :: 0 :: 0 :: 0 :: 0 :: (adgs y).drop 7 }) hB 13 (.int .u8 0) rfl
 have h7 := h6.set (z := { y with addr := 0 :: 0 :: 0 :: 0 :: 0 :: 0 :: 0 :: 0 :: (adgs y).drop 8 }) hB 14 (.int .u8 0) rfl
 have h8 := h7.set (z := { y with addr := 0 :: 0 :: 0 :: 0 :: 0 :: 0 :: 0 :: 0 :: 0 :: (adgs y).drop 9 }) hB 15 (.int .u8 0) rfl
 have h9 := h8.set (z := { y with addr := 0 :: 0 :: 0 :: 0 :: 0 :: 0 :: 0 :: 0 :: 0 :: 0 :: (adgs y).drop 10 }) hB 16 (.int .u8 0) rfl
 have h10 := h9.set (z := { y with addr := 0 :: 0 :: 0 :: 0 :: 0 :: 0 :: 0 :: 0 :: 0 :: 0 :: 0 :: (adgs y).drop 11 }) hB 17 (.int .u8 0) rfl
 have h11 := h10.set (z := { y with addr := 0 :: 0 :: 0 :: 0 :: 0 :: 0 :: 0 :: 0 :: 0 :: 0 :: 0 :: 0 :: (adgs y).drop 12 }) hB 18 (.int .u8 0) rfl
 have h12 := h11.set (z := { y with addr := 0 :: 0 :: 0 :: 0 :: 0 :: 0 :: 0 :: 0 :: 0 :: 0 :: 0 :: 0 :: 0 :: (adgs y).drop 13 }) hB 19 (.int .u8 0) rfl
 have h13 := h12.set (z := { y with addr := 0 :: 0 :: 0 :: 0 :: 0 :: 0 :: 0 :: 0 :: 0 :: 0 :: 0 :: 0 :: 0 :: 0 :: (adgs y).drop 14 }) hB 20 (.int .u8 0) rfl
 have h14 := h13.set (z := { y with addr := 0 :: 0 :: 0 :: 0 :: 0 :: 0 :: 0 :: 0 :: 0 :: 0 :: 0 :: 0 :: 0 :: 0 :: 0 :: (adgs y).drop 15 }) hB 21 (.int .u8 0) rfl
 exact h14.set (z := { y with addr := zeros 16 }) hB 22 (.int .u8 0) rfl
theorem BW.kept {w W W' : World} {B : Nat} {y : Ng} (h : BW w W B y) (K : W.grownBy W' none) : BW w W' B y := ⟨h.1.kept K, h.2.1.kept K, grown_trans h.2.2 K⟩
set_option maxRecDepth 100000 in
set_option maxHeartbeats 8000000 in
theorem word13_any (k : Int) (hk : 0 ≤ k ∧ k ≤ 13) (w : World) : Calls Tryz.prog 40 #[.int .i64 k] w fun e w' => e = .returned (str (nameT k)) ∧ w.grownBy w' none := by
 have h : k = 0 ∨ k = 1 ∨ k = 2 ∨ k = 3 ∨ k = 4 ∨ k = 5 ∨ k = 6 ∨ k = 7 ∨ k = 8 ∨ k = 9 ∨ k = 10 ∨ k = 11 ∨ k = 12 ∨ k = 13 := by omega
 clear hk
 rcases h with rfl | rfl | rfl | rfl | rfl | rfl | rfl | rfl | rfl | rfl | rfl | rfl | rfl | rfl
 all_goals
  go_enter Tryz.func40, Tryz.ntmps40
  go_wp2
  go_ret
  exact ⟨rfl, World.grownBy_alloc _ _ _⟩
set_option maxHeartbeats 4000000 in
theorem num13_any (n : Nat) (hn : n ≤ 4294967295) (w : World) : Calls Tryz.prog 39 #[.int .u32 (n : Int)] w fun e w' => e = .returned (str (dec n)) ∧ w.grownBy w' none := by
 have CD := decimal_any n w (by omega)
 have hw : IntKind.i64.wrap (n : Int) = (n : Int) := by rw [IntKind.wrap_i64]; omega
 go_enter Tryz.func39, Tryz.ntmps39
 go_wp2_with fail
 refine CD.mono ?_
 rintro e w1 ⟨rfl, K1⟩
 go_wp2
 go_ret
 exact ⟨rfl, K1⟩
set_option maxRecDepth 100000 in
set_option maxHeartbeats 8000000 in
theorem sign13_any (x : Ng) (w : World) (hx : x.kind = 7 ∨ x.kind = 8 ∨ (x.kind = 6 ∧ 1 ≤ x.op ∧ x.op ≤ 6) ∨ (x.kind = 4 ∧ 1 ≤ x.op ∧ x.op ≤ 10)) : Calls Tryz.prog 44 #[.agg x.cells.toArray] w fun e w' => e = .returned (str (signT x)) ∧ w.grownBy w' none := by
 have HBX := box_ng x
 have h3 := World.grownBy_alloc w (.cells x.cells.toArray 43) none
 have V := NB.alloc w x
 obtain ⟨E, hE⟩ : ∃ E, signT x = E := ⟨_, rfl⟩
 rw [hE]
 have HE : Hid (signT x = E) := hE
 obtain ⟨X, hX⟩ : ∃ X, x.cells.toArray = X := ⟨_, rfl⟩
 rw [hX] at HBX ⊢
 clear hE
 go_enter Tryz.func44, Tryz.ntmps44
 go_upto_region 1 with fail
 rw [← hX] at *
 generalize w.alloc (.cells x.cells.toArray 43) = w1 at *
 generalize w.heap.size = B at *
 have c0 := V.kind
 have c1 := V.op
 have HVO : Hid (∀ o, (w1.alloc o).cell? ⟨B, 1, none⟩ = some (.int .i64 x.op)) := fun o => (World.grownBy_alloc w1 o none).cell c1 (by simp)
 obtain ⟨kk, hkk⟩ : ∃ kk, x.kind = kk := ⟨_, rfl⟩
 have HK : Hid (x.kind = kk) := hkk
 obtain ⟨oo, hoo⟩ : ∃ oo, x.op = oo := ⟨_, rfl⟩
 have HO : Hid (x.op = oo) := hoo
 rw [hkk] at c0 hx
 rw [hoo] at c1 hx HVO
 clear HBX hX X V hkk hoo
 rcases hx with rfl | rfl | ⟨rfl, h1, h2⟩ | ⟨rfl, h1, h2⟩
 ·obtain rfl : E = [97, 110, 100] := by rw [← HE.out]; unfold signT; rw [HK.out]; rfl
  go_wp2
  go_ret
  exact ⟨rfl, h3⟩
 ·obtain rfl : E = [111, 114] := by rw [← HE.out]; unfold signT; rw [HK.out]; rfl
  go_wp2
  go_ret
  exact ⟨rfl, h3⟩
 ·have h : oo = 1 ∨ oo = 2 ∨ oo = 3 ∨ oo = 4 ∨ oo = 5 ∨ oo = 6 := by omega
  clear h1 h2
  rcases h with rfl | rfl | rfl | rfl | rfl | rfl
  all_goals
   have HF := HE.out
   unfold signT at HF
   rw [HK.out, HO.out] at HF
   subst HF
   have hv := HVO.out
   clear HVO HE
   go_wp2
   go_ret
   exact ⟨rfl, grown_trans h3 (World.grownBy_alloc _ _ _)⟩
 ·have h : oo = 1 ∨ oo = 2 ∨ oo = 3 ∨ oo = 4 ∨ oo = 5 ∨ oo = 6 ∨ oo = 7 ∨ oo = 8 ∨ oo = 9 ∨ oo = 10 := by omega
  clear h1 h2
  rcases h with rfl | rfl | rfl | rfl | rfl | rfl | rfl | rfl | rfl | rfl
  all_goals
   have HF := HE.out
   unfold signT at HF
   rw [HK.out, HO.out] at HF
   subst HF
   have hv := HVO.out
   clear HVO HE
   go_wp2
   go_ret
   exact ⟨rfl, grown_trans h3 (World.grownBy_alloc _ _ _)⟩

end Go.Proofs.YtklipelnjgpnjaaGreatDoor
