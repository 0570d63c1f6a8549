import Derived.Test.YtklipelnjgpnjaaGreatDoorLotN35
import Derived.Lib.ConvBytes
import Derived.Test.YtklipelnjgpnjaaGreatDoorLotN16
set_option maxHeartbeats 64000000
set_option maxRecDepth 100000
namespace Go.Proofs.YtklipelnjgpnjaaGreatDoor
open Go.RowKit
def a2A (s : List UInt8) : List UInt8 := if 2 ≤ (s.takeWhile m7).count 58 then s.takeWhile m7 else []
def a2t (s : List UInt8) : List UInt8 := if (s.takeWhile t8).contains 46 = true then s.takeWhile t8 else []
theorem aU1 (s : ByteArray) (hs : s.size ≤ 140737488355328) (w : World) :
  Calls Tryz.prog 118 #[.string s] w fun e w' => e = .returned (str (a2A (sl s))) ∧ w.grownBy w' none := by
 have hmf : ∀ (fn : Fn) (first cap : Array Value) (w : World), (Instr.makeFunc fn first cap).run Tryz.prog w = .ok (.func fn first cap) w := fun _ _ _ _ => rfl
 have A1 : VAt (w.alloc (.cells #[.int .i64 0] 3)) w.heap.size 3 #[.int .i64 0] := VAt.alloc w 3 #[.int .i64 0]
 have G1 : w.grownBy (w.alloc (.cells #[.int .i64 0] 3)) none := World.grownBy_alloc w _ none
 have C := aQ7 s w.heap.size hs _ A1
 have HG : Hid (w.grownBy _ none) := G1
 clear A1 G1
 have hsix : a2A (sl s) = if 2 ≤ ((sl s).takeWhile m7).count 58 then (sl s).takeWhile m7 else [] := rfl
 rw [hsix]
 clear hsix
 generalize ((sl s).takeWhile m7).count 58 = N at *
 generalize (sl s).takeWhile m7 = ans at *
 by_cases hN : 2 ≤ N
 ·rw [if_pos hN]
  have hN' : ¬ (N : Int) < 2 := by omega
  clear hN
  go_enter Tryz.func118, Tryz.ntmps118
  go_wp2_with fail
  refine C.mono ?_
  rintro e w2 ⟨rfl, A2, K2⟩
  have c2 : w2.cell? ⟨w.heap.size, 0, none⟩ = some (.int .i64 (N : Int)) := A2.cell 0
  have HG2 : Hid (w.grownBy w2 none) := V0 HG.out K2 (fun x hx => by injection hx with hx; omega)
  clear C A2 K2 HG
  go_wp2
  go_ret
  exact ⟨rfl, HG2.out⟩
 ·rw [if_neg hN]
  have hN' : (N : Int) < 2 := by omega
  clear hN
  go_enter Tryz.func118, Tryz.ntmps118
  go_wp2_with fail
  refine C.mono ?_
  rintro e w2 ⟨rfl, A2, K2⟩
  have c2 : w2.cell? ⟨w.heap.size, 0, none⟩ = some (.int .i64 (N : Int)) := A2.cell 0
  have HG2 : Hid (w.grownBy w2 none) := V0 HG.out K2 (fun x hx => by injection hx with hx; omega)
  clear C A2 K2 HG
  go_wp2
  go_ret
  exact ⟨rfl, HG2.out⟩
theorem aN8 (s : ByteArray) (hs : s.size ≤ 140737488355328) (w : World) :
  Calls Tryz.prog 119 #[.string s] w fun e w' => e = .returned (str (a2t (sl s))) ∧ w.grownBy w' none := by
 have hmf : ∀ (fn : Fn) (first cap : Array Value) (w : World), (Instr.makeFunc fn first cap).run Tryz.prog w = .ok (.func fn first cap) w := fun _ _ _ _ => rfl
 have A1 : VAt (w.alloc (.cells #[.bool false] 4)) w.heap.size 4 #[.bool false] := VAt.alloc w 4 #[.bool false]
 have G1 : w.grownBy (w.alloc (.cells #[.bool false] 4)) none := World.grownBy_alloc w _ none
 have C := aQ6 s w.heap.size hs _ A1
 have HG : Hid (w.grownBy _ none) := G1
 clear A1 G1
 have hquad : a2t (sl s) = if ((sl s).takeWhile t8).contains 46 = true then (sl s).takeWhile t8 else [] := rfl
 rw [hquad]
 clear hquad
 generalize ((sl s).takeWhile t8).contains 46 = N at *
 generalize (sl s).takeWhile t8 = ans at *
 cases N with
 | true =>
  rw [if_pos rfl]
  go_enter Tryz.func119, Tryz.ntmps119
  go_wp2_with fail
  refine C.mono ?_
  rintro e w2 ⟨rfl, A2, K2⟩
  have c2 : w2.cell? ⟨w.heap.size, 0, none⟩ = some (.bool true) := A2.cell 0
  have HG2 : Hid (w.grownBy w2 none) := V0 HG.out K2 (fun x hx => by injection hx with hx; omega)
  clear C A2 K2 HG
  go_wp2
  go_ret
  exact ⟨rfl, HG2.out⟩
 | false =>
  rw [if_neg (by simp)]
  go_enter Tryz.func119, Tryz.ntmps119
  go_wp2_with fail
  refine C.mono ?_
  rintro e w2 ⟨rfl, A2, K2⟩
  have c2 : w2.cell? ⟨w.heap.size, 0, none⟩ = some (.bool false) := A2.cell 0
  have HG2 : Hid (w.grownBy w2 none) := V0 HG.out K2 (fun x hx => by injection hx with hx; omega)
  clear C A2 K2 HG
  go_wp2
  go_ret
  exact ⟨rfl, HG2.out⟩
theorem aC8 (s : ByteArray) (hs : s.size ≤ 140737488355328) (w : World) :
  Calls Tryz.prog 121 #[.string s] w fun e w' => e = .returned (str ((sl s).takeWhile j9)) ∧ w = w' := by
 have C := aQ8 s hs w
 go_enter Tryz.func121, Tryz.ntmps121
 go_wp2_with fail
 refine C.mono ?_
 rintro e w2 ⟨rfl, rfl⟩
 clear C
 go_wp2
 go_ret
 exact ⟨rfl, rfl⟩
def a0y : List (List UInt8) := a1o ++ a1N.map fun c => [c]
def Tab (w : World) : Prop := (∃ ao cap, w.cell? ⟨0, 0, none⟩ = some (.slice ao 25 cap) ∧ CV w ao (a0y.map str)) ∧ (∃ t v, w.cell? ⟨2, 0, none⟩ = some (.iface t v)) ∧ ∃ t v, w.cell? ⟨3, 0, none⟩ = some (.iface t v)
theorem Tab.grown {w w' : World} (T : Tab w) (G : w.grownBy w' none) : Tab w' := by
 obtain ⟨⟨ao, cap, h1, h2⟩, ⟨t, v, h3⟩, t', u, h4⟩ := T
 exact ⟨⟨ao, cap, G.cell h1 (by simp), h2.keptNone G⟩, ⟨t, v, G.cell h3 (by simp)⟩, t', u, G.cell h4 (by simp)⟩
theorem a7y {w w' : World} (h : Below w.heap.size w w') : w.grownBy w' none := ⟨h.os, h.tape, h.output, h.size, fun k hk _ => h.block k hk⟩
theorem a5B (n : Nat) : ∀ (L : List (List UInt8)) (_ : ∀ x ∈ L, x.length = n) (s : List UInt8), L.find? (fun x => x.isPrefixOf s) = if s.take n ∈ L then some (s.take n) else none
 | [], _, s => by simp
 | x :: L, h, s => by
  have hx : x.length = n := h x (List.mem_cons_self ..)
  have ih := a5B n L (fun y hy => h y (List.mem_cons_of_mem _ hy)) s
  by_cases hp : x.isPrefixOf s = true
  ·have e : x = s.take n := by
    have := List.prefix_iff_eq_take.1 (List.isPrefixOf_iff_prefix.1 hp)
    rw [hx] at this
    exact this
   rw [List.find?_cons_of_pos (p := fun x : List UInt8 => x.isPrefixOf s) hp, if_pos (by rw [← e]; exact List.mem_cons_self ..), ← e]
  ·rw [List.find?_cons_of_neg (p := fun x : List UInt8 => x.isPrefixOf s) hp, ih]
   have e : ¬ s.take n = x := fun e => hp (List.isPrefixOf_iff_prefix.2 (by rw [← e]; exact List.take_prefix ..))
   by_cases hm : s.take n ∈ L
   ·rw [if_pos hm, if_pos (List.mem_cons_of_mem _ hm)]
   ·rw [if_neg hm, if_neg (by simp [e, hm])]
def a0K (L : List (List UInt8)) (s : List UInt8) : List UInt8 := match L.find? (fun x => x.isPrefixOf s) with
 | some x => x
 | none => []
theorem aT9 (s : List UInt8) : M5 s = a0K a0y s := by
 unfold a0K a0y
 rw [List.find?_append, a5B 2 a1o (by decide), a5B 1 (a1N.map fun c => [c]) (by decide)]
 unfold M5
 by_cases h2 : s.take 2 ∈ a1o
 ·rw [if_pos h2, if_pos h2]
  rfl
 ·rw [if_neg h2, if_neg h2, Option.none_or]
  cases s with
  | nil => decide
  | cons c r =>
   have e1 : (c :: r).take 1 = [c] := rfl
   rw [e1]
   by_cases hc : a1N.contains c = true
   ·rw [if_pos (by simpa using hc), if_pos (by simpa using hc)]
   ·rw [if_neg (by simpa using hc), if_neg (by simpa using hc)]
theorem aq8 {L : List (List UInt8)} {K s : List UInt8} (h : K.isPrefixOf s = true) : a0K (K :: L) s = K := by
 unfold a0K; rw [List.find?_cons_of_pos (p := fun x : List UInt8 => x.isPrefixOf s) h]
theorem a83 {L : List (List UInt8)} {K s : List UInt8} (h : K.isPrefixOf s = false) : a0K (K :: L) s = a0K L s := by
 unfold a0K; rw [List.find?_cons_of_neg (p := fun x : List UInt8 => x.isPrefixOf s) (by rw [h]; simp)]
theorem aN1 {K s : List UInt8} (h : K.isPrefixOf s = true) : s.take K.length = K := (List.prefix_iff_eq_take.1 (List.isPrefixOf_iff_prefix.1 h)).symm
theorem a9x {K s : List UInt8} {a b : UInt8} : (a :: K).isPrefixOf (b :: s) = (a == b && K.isPrefixOf s) := rfl
theorem aT8 (s : ByteArray) (hs : s.size ≤ 140737488355328) (w : World) (T : Tab w) :
  Calls Tryz.prog 122 #[.string s] w fun e w' => e = .returned (str (M5 (sl s))) ∧ w.grownBy w' none := by
 obtain ⟨⟨ao, cap, h1, h2⟩, -⟩ := T
 rw [aT9]
 obtain ⟨ans, hans⟩ : ∃ ans, a0K a0y (sl s) = ans := ⟨_, rfl⟩
 rw [hans]
 have HA : Hid (a0K (a0y.drop 0) (sl s) = ans) := hans
 have HC : Hid (CV w ao (a0y.map str)) := h2
 have hlen : Hid (a0y.length = 25) := rfl
 have hmost : Hid (∀ K ∈ a0y, K.length ≤ 2) := by show ∀ K ∈ a0y, K.length ≤ 2; decide
 clear hans h2
 generalize a0y = L at *
 go_enter Tryz.func122, Tryz.ntmps122
 go_wp2; go_step3
 go_wp2; go_step3
 go_wp2
 clear h1
 go_loopw [8] (fun i wr => ∃ j : Nat, j ≤ 25 ∧ i = .int .i64 j ∧ Hid (a0K (L.drop j) (sl s) = ans) ∧ w.grownBy wr none) (fun i _ => 25 - (intOf i).toNat)
 case atStart => exact ⟨0, Nat.zero_le _, rfl, HA, World.grownBy.refl _ _⟩
 case round =>
  clear HA
  obtain ⟨j, hj, rfl, HI, G⟩ := hrel
  by_cases hlt : j < 25
  ·have hji : (j : Int) < 25 := by omega
   have hjl : j < L.length := by rw [hlen.out]; exact hlt
   have HD : Hid (L.drop j = L[j] :: L.drop (j + 1)) := List.drop_eq_getElem_cons hjl
   obtain ⟨bb, o, rfl, hc⟩ := HC.out.addr (k := j) (by rw [List.length_map]; exact hjl)
   have hcj := hc j (by rw [List.length_map]; exact hjl)
   rw [List.getElem_map] at hcj
   have hk2 := hmost.out L[j] (List.getElem_mem hjl)
   have c0 : wr.cell? ⟨bb, o + j, none⟩ = some (str L[j]) := G.cell hcj (by simp)
   clear hc hcj HC hmost hlen
   generalize L[j] = K at *
   obtain ⟨KB, hKB⟩ : ∃ KB : ByteArray, ⟨K.toArray⟩ = KB := ⟨_, rfl⟩
   have hsl : sl KB = K := by rw [← hKB]; rfl
   have hsz : KB.size = K.length := by rw [← m8, hsl]
   have HK : Hid (sl KB = K) := hsl
   have hst : str K = .string KB := by rw [str, hKB]
   rw [hst] at c0
   have hki : (KB.size : Int) ≤ 2 := by omega
   have HSZ : Hid (KB.size = K.length) := hsz
   have HG : Hid (w.grownBy wr none) := G
   clear hKB hsl hst G hsz
   go_wp2
   clear c0
   go_loopw [14] (fun i wr => ∃ q : Nat, q ≤ KB.size ∧ i = .int .i64 q ∧ Hid (K.isPrefixOf (sl s) = (K.drop q).isPrefixOf ((sl s).drop q)) ∧ w.grownBy wr none) (fun i _ => KB.size - (intOf i).toNat)
   case atStart => exact ⟨0, Nat.zero_le _, rfl, rfl, HG.out⟩
   case round =>
    clear HG
    obtain ⟨q, hq, rfl, HQ, G⟩ := hrel
    have HG : Hid (w.grownBy wr none) := G
    clear G
    have z0 : (0 : Int) ≤ (q : Int) := by omega
    by_cases hqk : q < KB.size
    ·have hqi : (q : Int) < (KB.size : Int) := by omega
     have HKD : Hid (K.drop q = KB[q] :: K.drop (q + 1)) := by show K.drop q = _; rw [← HK.out]; exact a0c KB q hqk
     by_cases hqs : q < s.size
     ·have hqsi : ¬ (s.size : Int) ≤ (q : Int) := by omega
      have hqs' : (q : Int) < (s.size : Int) := by omega
      have HSD : Hid ((sl s).drop q = s[q] :: (sl s).drop (q + 1)) := a0c s q hqs
      by_cases he : s[q] = KB[q]
      ·have heb : ((s[q].toNat : Int) != (KB[q].toNat : Int)) = false := by rw [he]; simp
       have HN : Hid (K.isPrefixOf (sl s) = (K.drop (q + 1)).isPrefixOf ((sl s).drop (q + 1))) := by
        show _ = _
        rw [HQ.out, HKD.out, HSD.out, a9x, he]
        simp
       clear HQ HKD HSD he
       go_wp2
       go_quiet (fail)
       go_wp2
       go_roundw
       case rel => exact ⟨q + 1, by omega, by go_num, HN, d3 HG.out (f9 _ _ none)⟩
       case measure => simp [intOf]; omega
      ·have heb : ((s[q].toNat : Int) != (KB[q].toNat : Int)) = true := by
        simp only [bne_iff_ne, ne_eq]
        intro e
        exact he (UInt8.toNat_inj.1 (by omega))
       have HN : Hid (K.isPrefixOf (sl s) = false) := by
        show _ = _
        rw [HQ.out, HKD.out, HSD.out, a9x]
        simp only [Bool.and_eq_false_iff, beq_eq_false_iff_ne]
        exact .inl (fun e => he e.symm)
       clear HQ HKD HSD he
       go_wp2
       go_quiet (fail)
       go_wp2
       go_roundw
       case rel => exact ⟨j + 1, by omega, by go_num, by show a0K (L.drop (j + 1)) (sl s) = ans; rw [← HI.out, HD.out, a83 HN.out], d3 HG.out (f9 _ _ none)⟩
       case measure => simp [intOf]; omega
     ·have hqsi : (s.size : Int) ≤ (q : Int) := by omega
      have HN : Hid (K.isPrefixOf (sl s) = false) := by
       show _ = _
       rw [HQ.out, HKD.out, List.drop_eq_nil_of_le («as» := sl s) (i := q) (by rw [m8]; omega)]
       rfl
      clear HQ HKD
      go_wp2
      go_quiet (fail)
      go_wp2
      go_roundw
      case rel => exact ⟨j + 1, by omega, by go_num, by show a0K (L.drop (j + 1)) (sl s) = ans; rw [← HI.out, HD.out, a83 HN.out], d3 HG.out (f9 _ _ none)⟩
      case measure => simp [intOf]; omega
    ·obtain rfl : q = KB.size := by omega
     have hqi : ¬ (KB.size : Int) < (KB.size : Int) := by omega
     have HN : Hid (K.isPrefixOf (sl s) = true) := by
      show _ = _
      rw [HQ.out, List.drop_eq_nil_of_le («as» := K) (by rw [HSZ.out]; exact Nat.le_refl _)]
      rfl
     have hle : KB.size ≤ s.size := by
      have := List.IsPrefix.length_le (List.isPrefixOf_iff_prefix.1 HN.out)
      rw [m8] at this
      rw [HSZ.out]
      exact this
     have hle' : (KB.size : Int) ≤ (s.size : Int) := by omega
     have HE : Hid (Value.string (s.extract 0 KB.size) = str ans) := by
      show _ = _
      rw [a0D, a1l, ← HI.out, HD.out, aq8 HN.out, HSZ.out]
      congr 1
      simpa using aN1 HN.out
     clear HQ hqk
     go_wp2
     go_ret
     exact ⟨by rw [HE.out]; rfl, HG.out⟩
  ·obtain rfl : j = 25 := by omega
   have HE : Hid (([] : List UInt8) = ans) := by
    show _ = _
    rw [← HI.out, List.drop_eq_nil_of_le (by rw [hlen.out]; exact Nat.le_refl _)]
    rfl
   go_wp2
   rw [Exit.noGoto_ret]
   go_ret
   exact ⟨by rw [← HE.out]; rfl, G⟩
def T9 (n : Nat) : Nat := if n ≤ 57 then n - 48 else n - 87
def pU (b : Nat) : Nat → List UInt8 → Option Nat
 | v, [] => some v
 | v, c :: r => if T9 c.toNat < b then (if 4294967295 < v * b + T9 c.toNat then none else pU b (v * b + T9 c.toNat) r) else none
theorem a50 {c : UInt8} (h : j9 c = true) : (48 ≤ c.toNat ∧ c.toNat ≤ 57) ∨ (97 ≤ c.toNat ∧ c.toNat ≤ 122) := by
 simp only [j9, H9, a0Y, Bool.or_eq_true, Bool.and_eq_true, decide_eq_true_eq] at h
 exact h
theorem a8X (n : Nat) (h1 : 97 ≤ n) (h2 : n ≤ 122) (w : World) :
  Calls Tryz.prog 189 #[.int .u8 (n : Int)] w fun e w' => e = .returned (.int .u8 (n : Int)) ∧ w = w' := by
 have h : ∀ k : Fin 26, bits .or .u8 ((97 + k.1 : Nat) : Int) 32 = ((97 + k.1 : Nat) : Int) := by decide +kernel
 have h3 := h ⟨n - 97, by omega⟩
 simp only [show 97 + (n - 97) = n by omega] at h3
 clear h
 go_enter Tryz.func189, Tryz.ntmps189
 go_wp2
 go_ret
 exact ⟨L5 (by first | exact h3 | rfl), rfl⟩
def a3V (r : Option Nat) (e : Ending) : Prop := ∃ (n : Int) (er : Value), e = .returned (.tuple #[.int .u64 n, er]) ∧ ((r = none ∧ (er = .iface 190 (.int .i64 1) ∨ er = .iface 190 (.int .i64 2))) ∨ (∃ m : Nat, r = some m ∧ n = (m : Int) ∧ er = .nilIface))
theorem a7H (w : World) (e : TypeId) (s : ByteArray) : w.grownBy (Lib.bytesWorld w e s) none :=
 ⟨rfl, rfl, rfl, by rw [Lib.bytesWorld_size]; omega, fun k hk _ => Lib.bytesWorld_at_old w e s k hk⟩
theorem av7 (t : ByteArray) (hne : t.size ≠ 0) (hmax : t.size ≤ 140737488355328) (ht : ∀ c ∈ sl t, j9 c = true) (w : World) :
  Calls Tryz.prog 171 #[.string t, .int .i64 10, .int .i64 32] w fun e w' => a3V (pU 10 0 (sl t)) e ∧ w.grownBy w' none := by
 have hemp : t.toList.isEmpty = false := by
  rw [← decide_eq_emptyBytes]
  exact decide_eq_false (fun h => hne (by rw [h]; rfl))
 have hcv := Lib.run_convert_string_bytes (P := Tryz.prog) w 9 115 5 t (u := .string) Tryz.underlying9 Tryz.underlying115 Tryz.underlying5
 have HB : Hid (∀ j (hj : j < t.size), (Lib.bytesWorld w 5 t).cell? ⟨w.heap.size, j, none⟩ = some (.int .u8 (t[j].toNat : Int))) := fun j hj => by
  have := Lib.bytesWorld_cell w 5 t j hj
  rw [this]
  congr 3
  have h2 := a1T t j hj
  show (t.data.toList.getD j 0).toNat = _
  rw [List.getD_eq_getElem?_getD, show t.data.toList[j]? = some t[j] from h2]
  rfl
 have HG : Hid (w.grownBy (Lib.bytesWorld w 5 t) none) := a7H _ _ _
 generalize Lib.bytesWorld w 5 t = W1 at *
 have HWD : Hid (∀ j (hj : j < t.size), j9 t[j] = true) := fun j hj => ht _ (List.mem_of_getElem? (a1T t j hj))
 obtain ⟨ans, hans⟩ : ∃ ans, pU 10 0 (sl t) = ans := ⟨_, rfl⟩
 have HA : Hid (pU 10 0 ((sl t).drop 0) = ans) := by show _ = ans; rw [List.drop_zero]; exact hans
 rw [hans]
 have HL : Hid (∀ (n : Nat), 97 ≤ n → n ≤ 122 → ∀ w : World, Calls Tryz.prog 189 #[.int .u8 (n : Int)] w fun e w' => e = .returned (.int .u8 (n : Int)) ∧ w = w') := fun n h1 h2 w => a8X n h1 h2 w
 have hmv : IntKind.u64.wrap (IntKind.u64.wrap 4294967296 - 1) = 4294967295 := by
  rw [IntKind.wrap_u64, IntKind.wrap_u64]
  decide
 clear hans ht hne
 go_enter Tryz.func171, Tryz.ntmps171
 go_wp2
 go_loopw [12, 13, 101] (fun vu vn vi wr => ∃ (k acc : Nat) (a : Int), vu = .bool false ∧ vn = .int .u64 a ∧ vi = .int .i64 k ∧ k ≤ t.size ∧ Hid (a = (acc : Int) ∧ acc ≤ 4294967295 ∧ pU 10 acc ((sl t).drop k) = ans) ∧ wr = W1) (fun _ _ vi _ => t.size - (intOf vi).toNat)
 case atStart => exact ⟨0, 0, 0, rfl, rfl, rfl, Nat.zero_le _, ⟨rfl, Nat.zero_le _, HA.out⟩, rfl⟩
 case round =>
  clear HA hcv
  obtain ⟨k, acc, a, rfl, rfl, rfl, hk, hh, rfl⟩ := hrel
  obtain ⟨ha, hacc, hdec⟩ := hh.out
  clear hh
  have a0 : 0 ≤ a := by omega
  have a1 : a ≤ 4294967295 := by omega
  have z0 : (0 : Int) ≤ (k : Int) := by omega
  by_cases hkn : k < t.size
  ·have hki : (k : Int) < (t.size : Int) := by omega
   have hc := HB.out k hkn
   have hwd := a50 (HWD.out k hkn)
   rw [a0c t k hkn, pU] at hdec
   have hc256 : t[k].toNat < 256 := t[k].toNat_lt
   generalize t[k].toNat = c at *
   have HB' : Hid _ := HB
   clear HB HWD
   have icut : a < 1844674407370955162 := by omega
   have b95 : ((c : Int) == 95) = false := by rw [beq_eq_false_iff_ne]; omega
   rcases hwd with ⟨hd0, hd1⟩ | ⟨hd0, hd1⟩
   ·have hdv : T9 c = c - 48 := by rw [T9, if_pos hd1]
    have i0 : (48 : Int) ≤ (c : Int) := by omega
    have i1 : (c : Int) ≤ 57 := by omega
    have hw0 : IntKind.u8.wrap ((c : Int) - 48) = (c : Int) - 48 := by rw [IntKind.wrap_u8]; omega
    rw [hdv, if_pos (by omega)] at hdec
    by_cases hov : 4294967295 < acc * 10 + (c - 48)
    ·rw [if_pos hov] at hdec
     subst hdec
     have iov : 4294967295 < a * 10 + ((c : Int) - 48) := by omega
     clear hov ha hacc hdv HB' HL hd0 hd1
     go_wp2
     go_ret2
     exact ⟨⟨_, _, rfl, .inl ⟨rfl, .inl rfl⟩⟩, HG.out⟩
    ·rw [if_neg hov] at hdec
     have HN : Hid (a * 10 + ((c : Int) - 48) = ((acc * 10 + (c - 48) : Nat) : Int) ∧ acc * 10 + (c - 48) ≤ 4294967295 ∧ pU 10 (acc * 10 + (c - 48)) ((sl t).drop (k + 1)) = ans) := ⟨by omega, by omega, hdec⟩
     have iov : a * 10 + ((c : Int) - 48) ≤ 4294967295 := by omega
     clear hov ha hacc hdec hdv HB' HL hd0 hd1
     go_wp2
     go_roundw
     case rel => exact ⟨k + 1, acc * 10 + (c - 48), a * 10 + ((c : Int) - 48), rfl, by first | rfl | (congr 1; omega), by go_num, by omega, HN, by first | rfl | trivial⟩
     case measure => simp [intOf]; omega
   ·have hdv : T9 c = c - 87 := by rw [T9, if_neg (by omega)]
    have i0 : (48 : Int) ≤ (c : Int) := by omega
    have i1 : ¬ (c : Int) ≤ 57 := by omega
    have i2 : (97 : Int) ≤ (c : Int) := by omega
    have i3 : (c : Int) ≤ 122 := by omega
    have hw0 : IntKind.u8.wrap ((c : Int) - 97) = (c : Int) - 97 := by rw [IntKind.wrap_u8]; omega
    have hw1 : IntKind.u8.wrap ((c : Int) - 97 + 10) = (c : Int) - 87 := by rw [IntKind.wrap_u8]; omega
    have CL := HL.out c hd0 hd1
    rw [hdv] at hdec
    by_cases hbg : c - 87 < 10
    ·exact absurd hbg (by omega)
    ·rw [if_neg hbg] at hdec
     subst hdec
     have ibg : ¬ (c : Int) - 87 < 10 := by omega
     clear ha hacc hdv HB' HL hd0 hd1 hbg
     go_wp2_with (go_at_call 189; refine (CL _).mono ?_; rintro e w' ⟨rfl, rfl⟩)
     go_ret2
     exact ⟨⟨_, _, rfl, .inl ⟨rfl, .inr rfl⟩⟩, HG.out⟩
  ·obtain rfl : k = t.size := by omega
   have hki : ¬ (t.size : Int) < (t.size : Int) := by omega
   rw [List.drop_eq_nil_of_le (by rw [m8]; exact Nat.le_refl _), pU] at hdec
   subst hdec
   have HN : Hid (a = (acc : Int)) := ha
   clear ha hacc HB HWD HL
   go_wp2
   go_ret2
   exact ⟨⟨_, _, rfl, .inr ⟨acc, rfl, HN.out, rfl⟩⟩, HG.out⟩
theorem av8 (t : ByteArray) (hne : t.size ≠ 0) (hmax : t.size ≤ 140737488355328) (ht : ∀ c ∈ sl t, j9 c = true) (w : World) :
  Calls Tryz.prog 171 #[.string t, .int .i64 16, .int .i64 32] w fun e w' => a3V (pU 16 0 (sl t)) e ∧ w.grownBy w' none := by
 have hemp : t.toList.isEmpty = false := by
  rw [← decide_eq_emptyBytes]
  exact decide_eq_false (fun h => hne (by rw [h]; rfl))
 have hcv := Lib.run_convert_string_bytes (P := Tryz.prog) w 9 115 5 t (u := .string) Tryz.underlying9 Tryz.underlying115 Tryz.underlying5
 have HB : Hid (∀ j (hj : j < t.size), (Lib.bytesWorld w 5 t).cell? ⟨w.heap.size, j, none⟩ = some (.int .u8 (t[j].toNat : Int))) := fun j hj => by
  have := Lib.bytesWorld_cell w 5 t j hj
  rw [this]
  congr 3
  have h2 := a1T t j hj
  show (t.data.toList.getD j 0).toNat = _
  rw [List.getD_eq_getElem?_getD, show t.data.toList[j]? = some t[j] from h2]
  rfl
 have HG : Hid (w.grownBy (Lib.bytesWorld w 5 t) none) := a7H _ _ _
 generalize Lib.bytesWorld w 5 t = W1 at *
 have HWD : Hid (∀ j (hj : j < t.size), j9 t[j] = true) := fun j hj => ht _ (List.mem_of_getElem? (a1T t j hj))
 obtain ⟨ans, hans⟩ : ∃ ans, pU 16 0 (sl t) = ans := ⟨_, rfl⟩
 have HA : Hid (pU 16 0 ((sl t).drop 0) = ans) := by show _ = ans; rw [List.drop_zero]; exact hans
 rw [hans]
 have HL : Hid (∀ (n : Nat), 97 ≤ n → n ≤ 122 → ∀ w : World, Calls Tryz.prog 189 #[.int .u8 (n : Int)] w fun e w' => e = .returned (.int .u8 (n : Int)) ∧ w = w') := fun n h1 h2 w => a8X n h1 h2 w
 have hmv : IntKind.u64.wrap (IntKind.u64.wrap 4294967296 - 1) = 4294967295 := by
  rw [IntKind.wrap_u64, IntKind.wrap_u64]
  decide
 clear hans ht hne
 go_enter Tryz.func171, Tryz.ntmps171
 go_wp2
 go_loopw [12, 13, 101] (fun vu vn vi wr => ∃ (k acc : Nat) (a : Int), vu = .bool false ∧ vn = .int .u64 a ∧ vi = .int .i64 k ∧ k ≤ t.size ∧ Hid (a = (acc : Int) ∧ acc ≤ 4294967295 ∧ pU 16 acc ((sl t).drop k) = ans) ∧ wr = W1) (fun _ _ vi _ => t.size - (intOf vi).toNat)
 case atStart => exact ⟨0, 0, 0, rfl, rfl, rfl, Nat.zero_le _, ⟨rfl, Nat.zero_le _, HA.out⟩, rfl⟩
 case round =>
  clear HA hcv
  obtain ⟨k, acc, a, rfl, rfl, rfl, hk, hh, rfl⟩ := hrel
  obtain ⟨ha, hacc, hdec⟩ := hh.out
  clear hh
  have a0 : 0 ≤ a := by omega
  have a1 : a ≤ 4294967295 := by omega
  have z0 : (0 : Int) ≤ (k : Int) := by omega
  by_cases hkn : k < t.size
  ·have hki : (k : Int) < (t.size : Int) := by omega
   have hc := HB.out k hkn
   have hwd := a50 (HWD.out k hkn)
   rw [a0c t k hkn, pU] at hdec
   have hc256 : t[k].toNat < 256 := t[k].toNat_lt
   generalize t[k].toNat = c at *
   have HB' : Hid _ := HB
   clear HB HWD
   have icut : a < 1152921504606846976 := by omega
   have b95 : ((c : Int) == 95) = false := by rw [beq_eq_false_iff_ne]; omega
   rcases hwd with ⟨hd0, hd1⟩ | ⟨hd0, hd1⟩
   ·have hdv : T9 c = c - 48 := by rw [T9, if_pos hd1]
    have i0 : (48 : Int) ≤ (c : Int) := by omega
    have i1 : (c : Int) ≤ 57 := by omega
    have hw0 : IntKind.u8.wrap ((c : Int) - 48) = (c : Int) - 48 := by rw [IntKind.wrap_u8]; omega
    rw [hdv, if_pos (by omega)] at hdec
    by_cases hov : 4294967295 < acc * 16 + (c - 48)
    ·rw [if_pos hov] at hdec
     subst hdec
     have iov : 4294967295 < a * 16 + ((c : Int) - 48) := by omega
     clear hov ha hacc hdv HB' HL hd0 hd1
     go_wp2
     go_ret2
     exact ⟨⟨_, _, rfl, .inl ⟨rfl, .inl rfl⟩⟩, HG.out⟩
    ·rw [if_neg hov] at hdec
     have HN : Hid (a * 16 + ((c : Int) - 48) = ((acc * 16 + (c - 48) : Nat) : Int) ∧ acc * 16 + (c - 48) ≤ 4294967295 ∧ pU 16 (acc * 16 + (c - 48)) ((sl t).drop (k + 1)) = ans) := ⟨by omega, by omega, hdec⟩
     have iov : a * 16 + ((c : Int) - 48) ≤ 4294967295 := by omega
     clear hov ha hacc hdec hdv HB' HL hd0 hd1
     go_wp2
     go_roundw
     case rel => exact ⟨k + 1, acc * 16 + (c - 48), a * 16 + ((c : Int) - 48), rfl, by first | rfl | (congr 1; omega), by go_num, by omega, HN, by first | rfl | trivial⟩
     case measure => simp [intOf]; omega
   ·have hdv : T9 c = c - 87 := by rw [T9, if_neg (by omega)]
    have i0 : (48 : Int) ≤ (c : Int) := by omega
    have i1 : ¬ (c : Int) ≤ 57 := by omega
    have i2 : (97 : Int) ≤ (c : Int) := by omega
    have i3 : (c : Int) ≤ 122 := by omega
    have hw0 : IntKind.u8.wrap ((c : Int) - 97) = (c : Int) - 97 := by rw [IntKind.wrap_u8]; omega
    have hw1 : IntKind.u8.wrap ((c : Int) - 97 + 10) = (c : Int) - 87 := by rw [IntKind.wrap_u8]; omega
    have CL := HL.out c hd0 hd1
    rw [hdv] at hdec
    by_cases hbg : c - 87 < 16
    ·rw [if_pos hbg] at hdec
     by_cases hov : 4294967295 < acc * 16 + (c - 87)
     ·rw [if_pos hov] at hdec
      subst hdec
      have iov : 4294967295 < a * 16 + ((c : Int) - 87) := by omega
      have ibg : (c : Int) - 87 < 16 := by omega
      clear hov ha hacc hdv HB' HL hd0 hd1 hbg
      go_wp2_with (go_at_call 189; refine (CL _).mono ?_; rintro e w' ⟨rfl, rfl⟩)
      go_ret2
      exact ⟨⟨_, _, rfl, .inl ⟨rfl, .inl rfl⟩⟩, HG.out⟩
     ·rw [if_neg hov] at hdec
      have HN : Hid (a * 16 + ((c : Int) - 87) = ((acc * 16 + (c - 87) : Nat) : Int) ∧ acc * 16 + (c - 87) ≤ 4294967295 ∧ pU 16 (acc * 16 + (c - 87)) ((sl t).drop (k + 1)) = ans) := ⟨by omega, by omega, hdec⟩
      have iov : a * 16 + ((c : Int) - 87) ≤ 4294967295 := by omega
      have ibg : (c : Int) - 87 < 16 := by omega
      clear hov ha hacc hdec hdv HB' HL hd0 hd1 hbg
      go_wp2_with (go_at_call 189; refine (CL _).mono ?_; rintro e w' ⟨rfl, rfl⟩)
      go_roundw
      case rel => exact ⟨k + 1, acc * 16 + (c - 87), a * 16 + ((c : Int) - 87), rfl, by first | rfl | (congr 1; omega), by go_num, by omega, HN, by first | rfl | trivial⟩
      case measure => simp [intOf]; omega
    ·rw [if_neg hbg] at hdec
     subst hdec
     have ibg : ¬ (c : Int) - 87 < 16 := by omega
     clear ha hacc hdv HB' HL hd0 hd1 hbg
     go_wp2_with (go_at_call 189; refine (CL _).mono ?_; rintro e w' ⟨rfl, rfl⟩)
     go_ret2
     exact ⟨⟨_, _, rfl, .inl ⟨rfl, .inr rfl⟩⟩, HG.out⟩
  ·obtain rfl : k = t.size := by omega
   have hki : ¬ (t.size : Int) < (t.size : Int) := by omega
   rw [List.drop_eq_nil_of_le (by rw [m8]; exact Nat.le_refl _), pU] at hdec
   subst hdec
   have HN : Hid (a = (acc : Int)) := ha
   clear ha hacc HB HWD HL
   go_wp2
   go_ret2
   exact ⟨⟨_, _, rfl, .inr ⟨acc, rfl, HN.out, rfl⟩⟩, HG.out⟩
theorem av6 (b : Nat) (w : World) :
  Calls Tryz.prog 171 #[.string ⟨#[]⟩, .int .i64 (b : Int), .int .i64 32] w fun e w' => a3V none e ∧ w = w' := by
 go_enter Tryz.func171, Tryz.ntmps171
 go_wp2
 go_ret2
 exact ⟨⟨_, _, rfl, .inl ⟨rfl, .inr rfl⟩⟩, rfl⟩
theorem ao7 {c : UInt8} (h : j9 c = true) : F9 c.toNat = decide (T9 c.toNat < 16) ∧ (F9 c.toNat = true → q8 c.toNat = T9 c.toNat) := by
 have hn := a50 h
 generalize c.toNat = n at *
 unfold T9
 by_cases h1 : n ≤ 57
 ·have := a7R (c := n) (by omega)
  rw [if_pos h1, this.1, decide_eq_true (by omega)]
  exact ⟨rfl, fun _ => this.2⟩
 ·rw [if_neg h1]
  by_cases h2 : n ≤ 102
  ·have := a7S (c := n) (by omega)
   rw [this.1, decide_eq_true (by omega)]
   exact ⟨rfl, fun _ => this.2⟩
  ·have := a7T (c := n) (by omega) (by omega)
   rw [this.1, decide_eq_false (by omega)]
   exact ⟨rfl, fun h => by cases h⟩
theorem ao6 {c : UInt8} (h : j9 c = true) : H9 c = decide (T9 c.toNat < 10) ∧ (H9 c = true → c.toNat - 48 = T9 c.toNat) := by
 have hn := a50 h
 unfold H9 T9
 generalize c.toNat = n at *
 by_cases h1 : n ≤ 57
 ·rw [if_pos h1, decide_eq_true h1, decide_eq_true (show 48 ≤ n by omega), decide_eq_true (show n - 48 < 10 by omega)]
  exact ⟨rfl, fun _ => rfl⟩
 ·rw [if_neg h1, decide_eq_false h1, decide_eq_false (show ¬ n - 87 < 10 by omega)]
  simp
theorem a8u : ∀ (l : List UInt8) (v : Nat), (∀ c ∈ l, j9 c = true) → a2a v l = pU 16 v l
 | [], _, _ => rfl
 | c :: r, v, h => by
  have hd := ao7 (h c (List.mem_cons_self ..))
  rw [a2a, pU]
  cases ho : F9 c.toNat with
  | false =>
   rw [if_neg (by simp), if_neg (by have := hd.1; rw [ho] at this; simpa using this.symm)]
  | true =>
   have e := hd.2 ho
   have hlt : T9 c.toNat < 16 := by have := hd.1; rw [ho] at this; simpa using this.symm
   rw [if_pos rfl, if_pos hlt, e, Nat.mul_comm 16 v]
   split
   ·rfl
   ·exact a8u r _ (fun x hx => h x (List.mem_cons_of_mem _ hx))
theorem a7O : ∀ (l : List UInt8) (v : Nat), (∀ c ∈ l, j9 c = true) → L0 4294967295 v l = pU 10 v l
 | [], _, _ => rfl
 | c :: r, v, h => by
  have hd := ao6 (h c (List.mem_cons_self ..))
  rw [L0, pU]
  cases ho : H9 c with
  | false =>
   rw [if_neg (by simp), if_neg (by have := hd.1; rw [ho] at this; simpa using this.symm)]
  | true =>
   have e := hd.2 ho
   have hlt : T9 c.toNat < 10 := by have := hd.1; rw [ho] at this; simpa using this.symm
   rw [if_pos rfl, if_pos hlt, e, Nat.mul_comm 10 v]
   split
   ·rfl
   ·exact a7O r _ (fun x hx => h x (List.mem_cons_of_mem _ hx))
def a1g (b : Nat) (l : List UInt8) : Option Nat := if l = [] then none else pU b 0 l
theorem aG3 {s : List UInt8} (h : Lib.hasPrefix s [48, 120] = true) (hw : ∀ c ∈ s, j9 c = true) : a12 s = a1g 16 (s.drop 2) := by
 have hp := List.isPrefixOf_iff_prefix.1 (show List.isPrefixOf [48, 120] s = true from h)
 obtain ⟨r, rfl⟩ := hp
 show a12 (48 :: 120 :: r) = a1g 16 r
 cases r with
 | nil => decide
 | cons c r =>
  unfold a12 a1g
  rw [if_pos ⟨by simp, rfl, rfl⟩, if_neg (by simp)]
  exact a8u _ _ (fun x hx => hw x (List.mem_cons_of_mem _ (List.mem_cons_of_mem _ hx)))
theorem aG2 {s : List UInt8} (h : Lib.hasPrefix s [48, 120] = false) (hw : ∀ c ∈ s, j9 c = true) (hne : s ≠ []) : a12 s = if s.head? = some 48 ∧ s ≠ [48] then none else a1g 10 s := by
 have h1 : a12 s = B5 4294967295 s := by
  unfold a12
  rw [if_neg]
  rintro ⟨h2, h3, h4⟩
  match s, h2, h3, h4 with
  | a :: b :: r, _, h3, h4 =>
   simp at h3 h4
   subst h3 h4
   exact absurd h (by show ¬ List.isPrefixOf [48, 120] (48 :: 120 :: r) = false; simp [List.isPrefixOf])
 rw [h1, B5, a1g, if_neg hne, a7O s 0 hw]
 match s, hne with
 | [c], _ =>
  by_cases hc : c = 48
  ·subst hc; simp
  ·simp [hc]
 | a :: b :: r, _ =>
  by_cases ha : a = 48
  ·subst ha; simp
  ·simp [ha]
def ae9 (r : Option Nat) (e : Ending) : Prop := ∃ (n : Int) (er : Value), e = .returned (.tuple #[.int .u64 n, er]) ∧ ((r = none ∧ ∃ ty v, er = .iface ty v) ∨ (∃ m : Nat, r = some m ∧ n = (m : Int) ∧ er = .nilIface))
theorem av9 (b : Nat) (hb : b = 10 ∨ b = 16) (t : ByteArray) (hmax : t.size ≤ 140737488355328) (ht : ∀ c ∈ sl t, j9 c = true) (w : World) :
  Calls Tryz.prog 171 #[.string t, .int .i64 (b : Int), .int .i64 32] w fun e w' => a3V (a1g b (sl t)) e ∧ w.grownBy w' none := by
 by_cases hz : t.size = 0
 ·have h0 : t = ⟨#[]⟩ := by
   have : sl t = [] := List.length_eq_zero_iff.1 (by rw [m8]; exact hz)
   exact Value.string.inj (by rw [a0D, this])
  subst h0
  refine (av6 b w).mono ?_
  rintro e w' ⟨h, rfl⟩
  exact ⟨h, World.grownBy.refl _ _⟩
 ·have hne : sl t ≠ [] := fun h => hz (by rw [← m8, h]; rfl)
  rw [a1g, if_neg hne]
  rcases hb with rfl | rfl
  ·exact av7 t hz hmax ht w
  ·exact av8 t hz hmax ht w
theorem a9p (b : Nat) (hb : b = 10 ∨ b = 16) (t : ByteArray) (hmax : t.size ≤ 140737488355328) (ht : ∀ c ∈ sl t, j9 c = true) (w : World) (T : Tab w) :
  Calls Tryz.prog 148 #[.string t, .int .i64 (b : Int), .int .i64 32] w fun e w' => ae9 (a1g b (sl t)) e ∧ w.grownBy w' none := by
 have C := av9 b hb t hmax ht w
 have HT : Hid (Tab w) := T
 generalize a1g b (sl t) = r at *
 clear ht hb T
 go_enter Tryz.func148, Tryz.ntmps148
 go_wp2_with fail
 refine C.mono ?_
 rintro e w1 ⟨⟨n, er, rfl, h⟩, K1⟩
 clear C
 rcases h with ⟨rfl, hr⟩ | ⟨m, rfl, rfl, rfl⟩
 ·obtain ⟨-, ⟨t1, v1, h1⟩, t2, v2, h2⟩ := HT.out.grown K1
  rcases hr with rfl | rfl
  ·have C2 := Tryz.strconv_toError_range ⟨#[80, 97, 114, 115, 101, 85, 105, 110, 116]⟩ t (b : Int) 32 _ w1 (by omega) h2 (.inr ⟨_, _, rfl⟩)
   clear h1 h2 HT
   go_wp2_with fail
   refine C2.mono ?_
   rintro e w2 ⟨N, rfl, -, -, B2⟩
   clear C2
   go_wp2
   go_ret2
   exact ⟨⟨_, _, rfl, .inl ⟨rfl, _, _, rfl⟩⟩, d3 K1 (a7y B2)⟩
  ·have C2 := Tryz.strconv_toError_syntax ⟨#[80, 97, 114, 115, 101, 85, 105, 110, 116]⟩ t (b : Int) 32 _ w1 (by omega) h1 (.inr ⟨_, _, rfl⟩)
   clear h1 h2 HT
   go_wp2_with fail
   refine C2.mono ?_
   rintro e w2 ⟨N, rfl, -, -, B2⟩
   clear C2
   go_wp2
   go_ret2
   exact ⟨⟨_, _, rfl, .inl ⟨rfl, _, _, rfl⟩⟩, d3 K1 (a7y B2)⟩
 ·clear HT
  go_wp2
  go_ret2
  exact ⟨⟨_, _, rfl, .inr ⟨m, rfl, rfl, rfl⟩⟩, K1⟩
def nmV (s : List UInt8) : Except Int (Nat × List UInt8 × Nat) := match a12 s with
 | none => .error 102
 | some n => .ok (1, s, n)
theorem aG5 (s : ByteArray) (hmax : s.size ≤ 140737488355328) (hne : 0 < s.size) (hw : ∀ c ∈ sl s, j9 c = true) (w : World) (T : Tab w) :
  Calls Tryz.prog 120 #[.string s] w fun e w' => e = .returned (.tuple #[.agg (a2E 0 (nmV (sl s))), .int .i64 (a2F (nmV (sl s)))]) ∧ w.grownBy w' none := by
 have RA := VAt.alloc w 99 (tkA 0 0 [] 0)
 have G0 := World.grownBy_alloc w (.cells (tkA 0 0 [] 0) 99) none
 have C1 := Tryz.strings_CutPrefix s ⟨#[48, 120]⟩
 rw [show (⟨#[48, 120]⟩ : ByteArray).data.toList = [48, 120] from rfl] at C1
 have hne' : sl s ≠ [] := fun h => by rw [← m8, h] at hne; exact absurd hne (by decide)
 have hsl : s.data.toList = sl s := rfl
 rw [hsl] at C1
 cases hp : Lib.hasPrefix (sl s) [48, 120] with
 | true =>
  rw [hp, Lib.trimPrefix, if_pos hp] at C1
  have hn := aG3 hp hw
  have hd : (sl s).drop ([48, 120] : List UInt8).length = (sl s).drop 2 := rfl
  rw [hd] at C1
  obtain ⟨D, hD⟩ : ∃ D : ByteArray, ⟨((sl s).drop 2).toArray⟩ = D := ⟨_, rfl⟩
  have hDl : sl D = (sl s).drop 2 := by rw [← hD]; rfl
  rw [hD] at C1
  have hDs : D.size ≤ 140737488355328 := by rw [← m8, hDl, List.length_drop, m8]; omega
  have CP := a9p 16 (.inr rfl) D hDs (fun c hc => hw c (List.mem_of_mem_drop (by rw [← hDl]; exact hc)))
  rw [hDl, ← hn] at CP
  have HCP : Hid _ := CP
  have HT : Hid (Tab w) := T
  clear hD hDl hDs hn hd hp hsl hne' hw T CP
  go_enter Tryz.func120, Tryz.ntmps120
  go_upto_region 1 with fail
  rw [show (w.alloc (.cells #[.int .i64 0, .int .i64 0, .string ⟨#[]⟩, .int .u32 0] 99)) = w.alloc (.cells (tkA 0 0 [] 0) 99) from rfl]
  generalize w.alloc (.cells (tkA 0 0 [] 0) 99) = w1 at *
  obtain ⟨R, hR⟩ : ∃ R, w.heap.size = R := ⟨_, rfl⟩
  have HR : Hid (w.heap.size ≤ R) := by show w.heap.size ≤ R; omega
  rw [hR] at RA ⊢
  clear hR
  go_wp2_with fail
  refine (C1 _).mono ?_
  rintro e w2 ⟨rfl, rfl⟩
  clear C1
  have CP := HCP.out _ (HT.out.grown G0)
  clear HCP
  go_wp2_with fail
  refine CP.mono ?_
  rintro e w3 ⟨⟨n, er, rfl, h⟩, K3⟩
  have RA3 := RA.kept K3
  have G3 := d3 G0 K3
  clear CP RA G0 K3
  rcases h with ⟨hr, ty, v, rfl⟩ | ⟨m, hr, rfl, rfl⟩
  ·have HX : Hid (nmV (sl s) = .error 102) := by show nmV _ = _; rw [nmV, hr]
   clear hr
   go_wp2_with (refine wpList_store_row rfl 99 (.tmp 2) (.tmp 34) rfl R (tkA 0 0 [] 0) rfl rfl 99 _ RA3 I9 rfl (by simp [tkA, Value.oneCell']) ?_)
   refine bodyPost_ret (W8 rfl _ _ R (tkA 0 0 [] 0) _ rfl (RA3.setRow _) Tryz.underlying99 rfl I9) rfl ?_
   exact ⟨by rw [HX.out]; rfl, x5 G3 _ _ (.inr HR.out)⟩
  ·have HX : Hid (nmV (sl s) = .ok (1, sl s, m)) := by show nmV _ = _; rw [nmV, hr]
   have hm := a4A hr
   have hwm : IntKind.u32.wrap (m : Int) = (m : Int) := by rw [IntKind.wrap_u32]; omega
   clear hr
   go_wp2_with (refine wpList_store_row rfl 99 (.tmp 2) (.tmp 38) rfl R (tkA 1 0 (sl s) m) rfl rfl 99 _ RA3 I9 rfl (by simp [tkA, Value.oneCell']) ?_)
   refine bodyPost_ret (W8 rfl _ _ R (tkA 1 0 (sl s) m) _ rfl (RA3.setRow _) Tryz.underlying99 rfl I9) rfl ?_
   exact ⟨by rw [HX.out]; rfl, x5 G3 _ _ (.inr HR.out)⟩
 | false =>
  rw [hp, Lib.trimPrefix, if_neg (by rw [hp]; simp)] at C1
  rw [show (⟨(sl s).toArray⟩ : ByteArray) = s from by cases s; simp [sl]] at C1
  have hn := aG2 hp hw hne'
  have h0 : (sl s).head? = some s[0] := by
   have := a0c s 0 hne
   rw [List.drop_zero] at this
   rw [this]
   rfl
  have CP := a9p 10 (.inl rfl) s hmax hw
  have HT : Hid (Tab w) := T
  have hzz : (s.toList == [48]) = decide (sl s = [48]) := by
   rw [ByteArray.toList_eq]
   show (sl s == [48]) = _
   by_cases h : sl s = [48]
   ·rw [decide_eq_true h, h]; rfl
   ·rw [decide_eq_false h, beq_eq_false_iff_ne]; exact h
  have hni : (0 : Int) < (s.size : Int) := by omega
  by_cases hc : s[0] = 48 ∧ sl s ≠ [48]
  ·rw [if_pos ⟨by rw [h0, hc.1], hc.2⟩] at hn
   have HX : Hid (nmV (sl s) = .error 102) := by show nmV _ = _; rw [nmV, hn]
   have c0 : s[0].toNat = 48 := by rw [hc.1]; rfl
   have hz : (s.toList == [48]) = false := by rw [hzz, decide_eq_false hc.2]
   clear hn h0 hc hzz hp hsl hne' hw T CP HT
   go_enter Tryz.func120, Tryz.ntmps120
   go_upto_region 1 with fail
   rw [show (w.alloc (.cells #[.int .i64 0, .int .i64 0, .string ⟨#[]⟩, .int .u32 0] 99)) = w.alloc (.cells (tkA 0 0 [] 0) 99) from rfl]
   generalize w.alloc (.cells (tkA 0 0 [] 0) 99) = w1 at *
   obtain ⟨R, hR⟩ : ∃ R, w.heap.size = R := ⟨_, rfl⟩
   have HR : Hid (w.heap.size ≤ R) := by show w.heap.size ≤ R; omega
   rw [hR] at RA ⊢
   clear hR
   go_wp2_with fail
   refine (C1 _).mono ?_
   rintro e w2 ⟨rfl, rfl⟩
   clear C1
   go_wp2_with (refine wpList_store_row rfl 99 (.tmp 2) (.tmp 25) rfl R (tkA 0 0 [] 0) rfl rfl 99 _ RA I9 rfl (by simp [tkA, Value.oneCell']) ?_)
   refine bodyPost_ret (W8 rfl _ _ R (tkA 0 0 [] 0) _ rfl (RA.setRow _) Tryz.underlying99 rfl I9) rfl ?_
   exact ⟨by rw [HX.out]; rfl, x5 G0 _ _ (.inr HR.out)⟩
  ·have hn2 : a12 (sl s) = a1g 10 (sl s) := by
    rw [hn, if_neg]
    rintro ⟨h1, h2⟩
    rw [h0] at h1
    exact hc ⟨Option.some.inj h1, h2⟩
   rw [← hn2] at CP
   have HCP : Hid _ := CP
   by_cases h48 : s[0] = 48
   ·have hs48 : sl s = [48] := Decidable.byContradiction fun h => hc ⟨h48, h⟩
    have c0 : s[0].toNat = 48 := by rw [h48]; rfl
    have hz : (s.toList == [48]) = true := by rw [hzz, decide_eq_true hs48]
    clear hn hn2 h0 hc hzz hp hsl hne' hw T CP h48 hs48
    go_enter Tryz.func120, Tryz.ntmps120
    go_upto_region 1 with fail
    rw [show (w.alloc (.cells #[.int .i64 0, .int .i64 0, .string ⟨#[]⟩, .int .u32 0] 99)) = w.alloc (.cells (tkA 0 0 [] 0) 99) from rfl]
    generalize w.alloc (.cells (tkA 0 0 [] 0) 99) = w1 at *
    obtain ⟨R, hR⟩ : ∃ R, w.heap.size = R := ⟨_, rfl⟩
    have HR : Hid (w.heap.size ≤ R) := by show w.heap.size ≤ R; omega
    rw [hR] at RA ⊢
    clear hR
    go_wp2_with fail
    refine (C1 _).mono ?_
    rintro e w2 ⟨rfl, rfl⟩
    clear C1
    have CP := HCP.out _ (HT.out.grown G0)
    clear HCP
    go_wp2_with fail
    refine CP.mono ?_
    rintro e w3 ⟨⟨n, er, rfl, h⟩, K3⟩
    have RA3 := RA.kept K3
    have G3 := d3 G0 K3
    clear CP RA G0 K3
    rcases h with ⟨hr, ty, v, rfl⟩ | ⟨m, hr, rfl, rfl⟩
    ·have HX : Hid (nmV (sl s) = .error 102) := by show nmV _ = _; rw [nmV, hr]
     clear hr
     go_wp2_with (refine wpList_store_row rfl 99 (.tmp 2) (.tmp 34) rfl R (tkA 0 0 [] 0) rfl rfl 99 _ RA3 I9 rfl (by simp [tkA, Value.oneCell']) ?_)
     refine bodyPost_ret (W8 rfl _ _ R (tkA 0 0 [] 0) _ rfl (RA3.setRow _) Tryz.underlying99 rfl I9) rfl ?_
     exact ⟨by rw [HX.out]; rfl, x5 G3 _ _ (.inr HR.out)⟩
    ·have HX : Hid (nmV (sl s) = .ok (1, sl s, m)) := by show nmV _ = _; rw [nmV, hr]
     have hm := a4A hr
     have hwm : IntKind.u32.wrap (m : Int) = (m : Int) := by rw [IntKind.wrap_u32]; omega
     clear hr
     go_wp2_with (refine wpList_store_row rfl 99 (.tmp 2) (.tmp 38) rfl R (tkA 1 0 (sl s) m) rfl rfl 99 _ RA3 I9 rfl (by simp [tkA, Value.oneCell']) ?_)
     refine bodyPost_ret (W8 rfl _ _ R (tkA 1 0 (sl s) m) _ rfl (RA3.setRow _) Tryz.underlying99 rfl I9) rfl ?_
     exact ⟨by rw [HX.out]; rfl, x5 G3 _ _ (.inr HR.out)⟩
   ·have c0 : ((s[0].toNat : Int) == 48) = false := by
     rw [beq_eq_false_iff_ne]
     intro e
     exact h48 (UInt8.toNat_inj.1 (by simpa using (by omega : s[0].toNat = 48)))
    clear hn hn2 h0 hc hzz hp hsl hne' hw T CP h48
    go_enter Tryz.func120, Tryz.ntmps120
    go_upto_region 1 with fail
    rw [show (w.alloc (.cells #[.int .i64 0, .int .i64 0, .string ⟨#[]⟩, .int .u32 0] 99)) = w.alloc (.cells (tkA 0 0 [] 0) 99) from rfl]
    generalize w.alloc (.cells (tkA 0 0 [] 0) 99) = w1 at *
    obtain ⟨R, hR⟩ : ∃ R, w.heap.size = R := ⟨_, rfl⟩
    have HR : Hid (w.heap.size ≤ R) := by show w.heap.size ≤ R; omega
    rw [hR] at RA ⊢
    clear hR
    go_wp2_with fail
    refine (C1 _).mono ?_
    rintro e w2 ⟨rfl, rfl⟩
    clear C1
    have CP := HCP.out _ (HT.out.grown G0)
    clear HCP
    go_wp2_with fail
    refine CP.mono ?_
    rintro e w3 ⟨⟨n, er, rfl, h⟩, K3⟩
    have RA3 := RA.kept K3
    have G3 := d3 G0 K3
    clear CP RA G0 K3
    rcases h with ⟨hr, ty, v, rfl⟩ | ⟨m, hr, rfl, rfl⟩
    ·have HX : Hid (nmV (sl s) = .error 102) := by show nmV _ = _; rw [nmV, hr]
     clear hr
     go_wp2_with (refine wpList_store_row rfl 99 (.tmp 2) (.tmp 34) rfl R (tkA 0 0 [] 0) rfl rfl 99 _ RA3 I9 rfl (by simp [tkA, Value.oneCell']) ?_)
     refine bodyPost_ret (W8 rfl _ _ R (tkA 0 0 [] 0) _ rfl (RA3.setRow _) Tryz.underlying99 rfl I9) rfl ?_
     exact ⟨by rw [HX.out]; rfl, x5 G3 _ _ (.inr HR.out)⟩
    ·have HX : Hid (nmV (sl s) = .ok (1, sl s, m)) := by show nmV _ = _; rw [nmV, hr]
     have hm := a4A hr
     have hwm : IntKind.u32.wrap (m : Int) = (m : Int) := by rw [IntKind.wrap_u32]; omega
     clear hr
     go_wp2_with (refine wpList_store_row rfl 99 (.tmp 2) (.tmp 38) rfl R (tkA 1 0 (sl s) m) rfl rfl 99 _ RA3 I9 rfl (by simp [tkA, Value.oneCell']) ?_)
     refine bodyPost_ret (W8 rfl _ _ R (tkA 1 0 (sl s) m) _ rfl (RA3.setRow _) Tryz.underlying99 rfl I9) rfl ?_
     exact ⟨by rw [HX.out]; rfl, x5 G3 _ _ (.inr HR.out)⟩
theorem aY1 {s : List UInt8} (h : 2 ≤ (s.takeWhile m7).count 58) : o6 s = .ok (4, s.takeWhile m7, 0) := by rw [o6, if_pos h]
theorem aX9 {s : List UInt8} (h : ¬ 2 ≤ (s.takeWhile m7).count 58) (hd : s.head?.any H9 = true) (hq : (s.takeWhile t8).contains 46 = true) : o6 s = .ok (3, s.takeWhile t8, 0) := by
 rw [o6, if_neg h, if_pos hd, if_pos (by simpa using hq)]
theorem aX7 {s : List UInt8} (h : ¬ 2 ≤ (s.takeWhile m7).count 58) (hd : s.head?.any H9 = true) (hq : (s.takeWhile t8).contains 46 = false) : o6 s = nmV (s.takeWhile j9) := by
 rw [o6, if_neg h, if_pos hd, if_neg (by simpa using hq)]
 unfold nmV
 rfl
theorem aY2 {s : List UInt8} (h : ¬ 2 ≤ (s.takeWhile m7).count 58) (hd : s.head?.any H9 = false) (hl : s.head?.any a0Y = true) : o6 s = .ok (2, s.takeWhile j9, 0) := by
 rw [o6, if_neg h, if_neg (by rw [hd]; simp), if_pos hl]
theorem aY0 {s : List UInt8} (h : ¬ 2 ≤ (s.takeWhile m7).count 58) (hd : s.head?.any H9 = false) (hl : s.head?.any a0Y = false) : o6 s = if M5 s = [] then .error 101 else .ok (5, M5 s, 0) := by
 rw [o6, if_neg h, if_neg (by rw [hd]; simp), if_neg (by rw [hl]; simp)]
theorem aF1 (s : ByteArray) (hs : s.size ≤ 140737488355328) (hne : 0 < s.size) (w : World) (T : Tab w) :
  Calls Tryz.prog 84 #[.string s] w fun e w' => e = .returned (.tuple #[.agg (a2E 0 (o6 (sl s))), .int .i64 (a2F (o6 (sl s)))]) ∧ w.grownBy w' none := by
 have RA := VAt.alloc w 99 (tkA 0 0 [] 0)
 have G0 := World.grownBy_alloc w (.cells (tkA 0 0 [] 0) 99) none
 have HT : Hid (Tab w) := T
 have h0 : (sl s).head? = some s[0] := by
  have := a0c s 0 hne
  rw [List.drop_zero] at this
  rw [this]
  rfl
 have hcons : sl s = s[0] :: (sl s).drop 1 := by
  have := a0c s 0 hne
  rw [List.drop_zero] at this
  exact this
 have C6 : Hid (∀ W : World, Calls Tryz.prog 118 #[.string s] W fun e w' => e = .returned (str (a2A (sl s))) ∧ W.grownBy w' none) := fun W => aU1 s hs W
 have C4 : Hid (∀ W : World, Calls Tryz.prog 119 #[.string s] W fun e w' => e = .returned (str (a2t (sl s))) ∧ W.grownBy w' none) := fun W => aN8 s hs W
 have CW : Hid (∀ W : World, Calls Tryz.prog 121 #[.string s] W fun e w' => e = .returned (str ((sl s).takeWhile j9)) ∧ W = w') := fun W => aC8 s hs W
 have CK : Hid (∀ W : World, Calls Tryz.prog 83 #[.int .u8 (s[0].toNat : Int)] W fun e w' => e = .returned (.int .i64 (o8 s[0].toNat : Int)) ∧ W = w') := fun W => a3z _ W
 have CG : Hid (∀ W : World, Tab W → Calls Tryz.prog 122 #[.string s] W fun e w' => e = .returned (str (M5 (sl s))) ∧ W.grownBy w' none) := fun W TW => aT8 s hs W TW
 have hk := a1v s[0]
 have hni : (0 : Int) < (s.size : Int) := by omega
 clear T
 by_cases h6 : 2 ≤ ((sl s).takeWhile m7).count 58
 ·have HX : Hid _ := aY1 h6
  have e6 : a2A (sl s) = (sl s).takeWhile m7 := by rw [a2A, if_pos h6]
  rw [e6] at C6
  have hnn : ((sl s).takeWhile m7).isEmpty = false := by
   cases hh : (sl s).takeWhile m7 with
   | nil => rw [hh] at h6; exact absurd h6 (by decide)
   | cons a b => rfl
  clear h6 e6 h0 hcons C4 CW CK CG hk HT
  obtain ⟨S6, hS⟩ : ∃ S, (sl s).takeWhile m7 = S := ⟨_, rfl⟩
  rw [hS] at C6 HX hnn
  clear hS
  go_enter Tryz.func84, Tryz.ntmps84
  go_upto_region 1 with fail
  rw [show (w.alloc (.cells #[.int .i64 0, .int .i64 0, .string ⟨#[]⟩, .int .u32 0] 99)) = w.alloc (.cells (tkA 0 0 [] 0) 99) from rfl]
  generalize w.alloc (.cells (tkA 0 0 [] 0) 99) = w1 at *
  obtain ⟨R, hR⟩ : ∃ R, w.heap.size = R := ⟨_, rfl⟩
  have HR : Hid (w.heap.size ≤ R) := by show w.heap.size ≤ R; omega
  rw [hR] at RA ⊢
  clear hR
  go_wp2_with fail
  refine (C6.out _).mono ?_
  rintro e w2 ⟨rfl, K2⟩
  have RA2 := RA.kept K2
  have G2 := d3 G0 K2
  clear C6 RA G0 K2
  go_wp2_with (refine wpList_store_row rfl 99 (.tmp 2) (.tmp 12) rfl R (tkA 4 0 S6 0) rfl rfl 99 _ RA2 I9 rfl (by simp [tkA, Value.oneCell']) ?_)
  refine bodyPost_ret (W8 rfl _ _ R (tkA 4 0 S6 0) _ rfl (RA2.setRow _) Tryz.underlying99 rfl I9) rfl ?_
  exact ⟨by rw [HX.out]; rfl, x5 G2 _ _ (.inr HR.out)⟩
 ·have e6 : a2A (sl s) = [] := by rw [a2A, if_neg h6]
  rw [e6] at C6
  clear e6
  cases hd : H9 s[0] with
  | true =>
   have hd' : (sl s).head?.any H9 = true := by rw [h0]; exact hd
   have hk2 : o8 s[0].toNat = 2 := by have := hk.2.2.2.2.2.2.1; rw [hd] at this; exact of_decide_eq_true this.symm
   rw [hk2] at CK
   clear hk2 hk
   cases hq : ((sl s).takeWhile t8).contains 46 with
   | true =>
    have HX : Hid _ := aX9 h6 hd' hq
    have e4 : a2t (sl s) = (sl s).takeWhile t8 := by rw [a2t, if_pos hq]
    rw [e4] at C4
    have hnn : ((sl s).takeWhile t8).isEmpty = false := by
     cases hh : (sl s).takeWhile t8 with
     | nil => rw [hh] at hq; exact absurd hq (by decide)
     | cons a b => rfl
    clear h6 e4 h0 hcons CW CG HT hd hd' hq
    obtain ⟨S4, hS⟩ : ∃ S, (sl s).takeWhile t8 = S := ⟨_, rfl⟩
    rw [hS] at C4 HX hnn
    clear hS
    go_enter Tryz.func84, Tryz.ntmps84
    go_upto_region 1 with fail
    rw [show (w.alloc (.cells #[.int .i64 0, .int .i64 0, .string ⟨#[]⟩, .int .u32 0] 99)) = w.alloc (.cells (tkA 0 0 [] 0) 99) from rfl]
    generalize w.alloc (.cells (tkA 0 0 [] 0) 99) = w1 at *
    obtain ⟨R, hR⟩ : ∃ R, w.heap.size = R := ⟨_, rfl⟩
    have HR : Hid (w.heap.size ≤ R) := by show w.heap.size ≤ R; omega
    rw [hR] at RA ⊢
    clear hR
    go_wp2_with fail
    refine (C6.out _).mono ?_
    rintro e w2 ⟨rfl, K2⟩
    have RA2 := RA.kept K2
    have G2 := d3 G0 K2
    clear C6 RA G0 K2
    go_wp2_with fail
    refine (CK.out _).mono ?_
    rintro e w3 ⟨rfl, rfl⟩
    clear CK
    go_wp2_with fail
    refine (C4.out _).mono ?_
    rintro e w4 ⟨rfl, K4⟩
    have RA4 := RA2.kept K4
    have G4 := d3 G2 K4
    clear C4 RA2 G2 K4
    go_wp2_with (refine wpList_store_row rfl 99 (.tmp 2) (.tmp 23) rfl R (tkA 3 0 S4 0) rfl rfl 99 _ RA4 I9 rfl (by simp [tkA, Value.oneCell']) ?_)
    refine bodyPost_ret (W8 rfl _ _ R (tkA 3 0 S4 0) _ rfl (RA4.setRow _) Tryz.underlying99 rfl I9) rfl ?_
    exact ⟨by rw [HX.out]; rfl, x5 G4 _ _ (.inr HR.out)⟩
   | false =>
    have hX := aX7 h6 hd' hq
    have e4 : a2t (sl s) = [] := by rw [a2t, if_neg (by rw [hq]; simp)]
    rw [e4] at C4
    have hwd : j9 s[0] = true := by rw [j9, hd]; rfl
    have hW0 : 0 < ((sl s).takeWhile j9).length := by
     rw [hcons, List.takeWhile_cons_of_pos hwd]
     simp
    have hWl : ((sl s).takeWhile j9).length ≤ 140737488355328 := by
     have := a2C j9 (sl s)
     rw [m8] at this
     omega
    have hWw : ∀ c ∈ (sl s).takeWhile j9, j9 c = true := fun c hc => a2D j9 _ hc
    clear h6 e4 h0 hcons CG hd hd' hq hwd
    obtain ⟨SW, hS⟩ : ∃ S, (sl s).takeWhile j9 = S := ⟨_, rfl⟩
    rw [hS] at CW hX hW0 hWl hWw
    clear hS
    have CN : Hid (∀ W : World, Tab W → Calls Tryz.prog 120 #[str SW] W fun e w' => e = .returned (.tuple #[.agg (a2E 0 (nmV SW)), .int .i64 (a2F (nmV SW))]) ∧ W.grownBy w' none) := fun W TW => by
     have hz : (⟨SW.toArray⟩ : ByteArray).size = SW.length := by rw [← m8, a1U]
     exact aG5 ⟨SW.toArray⟩ (by rw [hz]; exact hWl) (by rw [hz]; exact hW0) (by rw [a1U]; exact hWw) W TW
    clear hW0 hWl hWw
    cases hm : nmV SW with
    | error er =>
     rw [hm] at CN hX
     simp only [a2E, a2F] at CN
     have HX : Hid _ := hX
     clear hm hX
     go_enter Tryz.func84, Tryz.ntmps84
     go_upto_region 1 with fail
     rw [show (w.alloc (.cells #[.int .i64 0, .int .i64 0, .string ⟨#[]⟩, .int .u32 0] 99)) = w.alloc (.cells (tkA 0 0 [] 0) 99) from rfl]
     generalize w.alloc (.cells (tkA 0 0 [] 0) 99) = w1 at *
     obtain ⟨R, hR⟩ : ∃ R, w.heap.size = R := ⟨_, rfl⟩
     have HR : Hid (w.heap.size ≤ R) := by show w.heap.size ≤ R; omega
     rw [hR] at RA ⊢
     clear hR
     go_wp2_with fail
     refine (C6.out _).mono ?_
     rintro e w2 ⟨rfl, K2⟩
     have RA2 := RA.kept K2
     have G2 := d3 G0 K2
     clear C6 RA G0 K2
     go_wp2_with fail
     refine (CK.out _).mono ?_
     rintro e w3 ⟨rfl, rfl⟩
     clear CK
     go_wp2_with fail
     refine (C4.out _).mono ?_
     rintro e w4 ⟨rfl, K4⟩
     have RA4 := RA2.kept K4
     have G4 := d3 G2 K4
     clear C4 RA2 G2 K4
     go_wp2_with fail
     refine (CW.out _).mono ?_
     rintro e w5 ⟨rfl, rfl⟩
     clear CW
     have CN5 := CN.out _ (HT.out.grown G4)
     clear CN HT
     go_wp2_with fail
     refine CN5.mono ?_
     rintro e w6 ⟨rfl, K6⟩
     have RA6 := RA4.kept K6
     have G6 := d3 G4 K6
     clear CN5 RA4 G4 K6
     go_wp2_with (refine wpList_store_row rfl 99 (.tmp 2) (.tmp 27) rfl R (tkA 0 0 [] 0) rfl rfl 99 _ RA6 I9 rfl (by simp [tkA, Value.oneCell']) ?_)
     refine bodyPost_ret (W8 rfl _ _ R (tkA 0 0 [] 0) _ rfl (RA6.setRow _) Tryz.underlying99 rfl I9) rfl ?_
     exact ⟨by rw [HX.out]; rfl, x5 G6 _ _ (.inr HR.out)⟩
    | ok y =>
     obtain ⟨q, t, n⟩ := y
     rw [hm] at CN hX
     simp only [a2E, a2F] at CN
     have HX : Hid _ := hX
     clear hm hX
     go_enter Tryz.func84, Tryz.ntmps84
     go_upto_region 1 with fail
     rw [show (w.alloc (.cells #[.int .i64 0, .int .i64 0, .string ⟨#[]⟩, .int .u32 0] 99)) = w.alloc (.cells (tkA 0 0 [] 0) 99) from rfl]
     generalize w.alloc (.cells (tkA 0 0 [] 0) 99) = w1 at *
     obtain ⟨R, hR⟩ : ∃ R, w.heap.size = R := ⟨_, rfl⟩
     have HR : Hid (w.heap.size ≤ R) := by show w.heap.size ≤ R; omega
     rw [hR] at RA ⊢
     clear hR
     go_wp2_with fail
     refine (C6.out _).mono ?_
     rintro e w2 ⟨rfl, K2⟩
     have RA2 := RA.kept K2
     have G2 := d3 G0 K2
     clear C6 RA G0 K2
     go_wp2_with fail
     refine (CK.out _).mono ?_
     rintro e w3 ⟨rfl, rfl⟩
     clear CK
     go_wp2_with fail
     refine (C4.out _).mono ?_
     rintro e w4 ⟨rfl, K4⟩
     have RA4 := RA2.kept K4
     have G4 := d3 G2 K4
     clear C4 RA2 G2 K4
     go_wp2_with fail
     refine (CW.out _).mono ?_
     rintro e w5 ⟨rfl, rfl⟩
     clear CW
     have CN5 := CN.out _ (HT.out.grown G4)
     clear CN HT
     go_wp2_with fail
     refine CN5.mono ?_
     rintro e w6 ⟨rfl, K6⟩
     have RA6 := RA4.kept K6
     have G6 := d3 G4 K6
     clear CN5 RA4 G4 K6
     go_wp2_with (refine wpList_store_row rfl 99 (.tmp 2) (.tmp 27) rfl R (tkA q 0 t n) rfl rfl 99 _ RA6 I9 rfl (by simp [tkA, Value.oneCell']) ?_)
     refine bodyPost_ret (W8 rfl _ _ R (tkA q 0 t n) _ rfl (RA6.setRow _) Tryz.underlying99 rfl I9) rfl ?_
     exact ⟨by rw [HX.out]; rfl, x5 G6 _ _ (.inr HR.out)⟩
  | false =>
   have hd' : (sl s).head?.any H9 = false := by rw [h0]; exact hd
   cases hl : a0Y s[0] with
   | true =>
    have hl' : (sl s).head?.any a0Y = true := by rw [h0]; exact hl
    have HX : Hid _ := aY2 h6 hd' hl'
    have hk3 : o8 s[0].toNat = 3 ∨ o8 s[0].toNat = 4 := by have := hk.2.2.2.2.2.2.2; rw [hl] at this; exact of_decide_eq_true this.symm
    clear h6 h0 hcons C4 CG hk HT hd hd' hl hl'
    obtain ⟨SW, hS⟩ : ∃ S, (sl s).takeWhile j9 = S := ⟨_, rfl⟩
    rw [hS] at CW HX
    clear hS
    rcases hk3 with hk3 | hk3
    all_goals
     rw [hk3] at CK
     clear hk3
     go_enter Tryz.func84, Tryz.ntmps84
     go_upto_region 1 with fail
     rw [show (w.alloc (.cells #[.int .i64 0, .int .i64 0, .string ⟨#[]⟩, .int .u32 0] 99)) = w.alloc (.cells (tkA 0 0 [] 0) 99) from rfl]
     generalize w.alloc (.cells (tkA 0 0 [] 0) 99) = w1 at *
     obtain ⟨R, hR⟩ : ∃ R, w.heap.size = R := ⟨_, rfl⟩
     have HR : Hid (w.heap.size ≤ R) := by show w.heap.size ≤ R; omega
     rw [hR] at RA ⊢
     clear hR
     go_wp2_with fail
     refine (C6.out _).mono ?_
     rintro e w2 ⟨rfl, K2⟩
     have RA2 := RA.kept K2
     have G2 := d3 G0 K2
     clear C6 RA G0 K2
     go_wp2_with fail
     refine (CK.out _).mono ?_
     rintro e w3 ⟨rfl, rfl⟩
     clear CK
     go_wp2_with fail
     refine (CW.out _).mono ?_
     rintro e w5 ⟨rfl, rfl⟩
     clear CW
     go_wp2_with (refine wpList_store_row rfl 99 (.tmp 2) (.tmp 34) rfl R (tkA 2 0 SW 0) rfl rfl 99 _ RA2 I9 rfl (by simp [tkA, Value.oneCell']) ?_)
     refine bodyPost_ret (W8 rfl _ _ R (tkA 2 0 SW 0) _ rfl (RA2.setRow _) Tryz.underlying99 rfl I9) rfl ?_
     exact ⟨by rw [HX.out]; rfl, x5 G2 _ _ (.inr HR.out)⟩
   | false =>
    have hl' : (sl s).head?.any a0Y = false := by rw [h0]; exact hl
    have hX := aY0 h6 hd' hl'
    have hk2 : o8 s[0].toNat ≠ 2 := by have := hk.2.2.2.2.2.2.1; rw [hd] at this; exact of_decide_eq_false this.symm
    have hk3 : ¬ (o8 s[0].toNat = 3 ∨ o8 s[0].toNat = 4) := by have := hk.2.2.2.2.2.2.2; rw [hl] at this; exact of_decide_eq_false this.symm
    clear h6 h0 hcons C4 CW hk hd hd' hl hl'
    obtain ⟨SG, hS⟩ : ∃ S, M5 (sl s) = S := ⟨_, rfl⟩
    rw [hS] at CG hX
    clear hS
    generalize o8 s[0].toNat = kk at *
    have k2 : ((kk : Int) == 2) = false := by rw [beq_eq_false_iff_ne]; omega
    have k3 : ((kk : Int) == 3) = false := by rw [beq_eq_false_iff_ne]; omega
    have k4 : ((kk : Int) == 4) = false := by rw [beq_eq_false_iff_ne]; omega
    clear hk2 hk3
    by_cases hg : SG = []
    ·subst hg
     rw [if_pos rfl] at hX
     have HX : Hid _ := hX
     clear hX
     go_enter Tryz.func84, Tryz.ntmps84
     go_upto_region 1 with fail
     rw [show (w.alloc (.cells #[.int .i64 0, .int .i64 0, .string ⟨#[]⟩, .int .u32 0] 99)) = w.alloc (.cells (tkA 0 0 [] 0) 99) from rfl]
     generalize w.alloc (.cells (tkA 0 0 [] 0) 99) = w1 at *
     obtain ⟨R, hR⟩ : ∃ R, w.heap.size = R := ⟨_, rfl⟩
     have HR : Hid (w.heap.size ≤ R) := by show w.heap.size ≤ R; omega
     rw [hR] at RA ⊢
     clear hR
     go_wp2_with fail
     refine (C6.out _).mono ?_
     rintro e w2 ⟨rfl, K2⟩
     have RA2 := RA.kept K2
     have G2 := d3 G0 K2
     clear C6 RA G0 K2
     go_wp2_with fail
     refine (CK.out _).mono ?_
     rintro e w3 ⟨rfl, rfl⟩
     clear CK
     have CG3 := CG.out _ (HT.out.grown G2)
     clear CG HT
     go_wp2_with fail
     refine CG3.mono ?_
     rintro e w5 ⟨rfl, K5⟩
     have RA5 := RA2.kept K5
     have G5 := d3 G2 K5
     clear CG3 RA2 G2 K5
     go_wp2_with (refine wpList_store_row rfl 99 (.tmp 2) (.tmp 41) rfl R (tkA 0 0 [] 0) rfl rfl 99 _ RA5 I9 rfl (by simp [tkA, Value.oneCell']) ?_)
     refine bodyPost_ret (W8 rfl _ _ R (tkA 0 0 [] 0) _ rfl (RA5.setRow _) Tryz.underlying99 rfl I9) rfl ?_
     exact ⟨by rw [HX.out]; rfl, x5 G5 _ _ (.inr HR.out)⟩
    ·have hgf : SG.isEmpty = false := by simpa using hg
     rw [if_neg hg] at hX
     have HX : Hid _ := hX
     clear hX hg
     go_enter Tryz.func84, Tryz.ntmps84
     go_upto_region 1 with fail
     rw [show (w.alloc (.cells #[.int .i64 0, .int .i64 0, .string ⟨#[]⟩, .int .u32 0] 99)) = w.alloc (.cells (tkA 0 0 [] 0) 99) from rfl]
     generalize w.alloc (.cells (tkA 0 0 [] 0) 99) = w1 at *
     obtain ⟨R, hR⟩ : ∃ R, w.heap.size = R := ⟨_, rfl⟩
     have HR : Hid (w.heap.size ≤ R) := by show w.heap.size ≤ R; omega
     rw [hR] at RA ⊢
     clear hR
     go_wp2_with fail
     refine (C6.out _).mono ?_
     rintro e w2 ⟨rfl, K2⟩
     have RA2 := RA.kept K2
     have G2 := d3 G0 K2
     clear C6 RA G0 K2
     go_wp2_with fail
     refine (CK.out _).mono ?_
     rintro e w3 ⟨rfl, rfl⟩
     clear CK
     have CG3 := CG.out _ (HT.out.grown G2)
     clear CG HT
     go_wp2_with fail
     refine CG3.mono ?_
     rintro e w5 ⟨rfl, K5⟩
     have RA5 := RA2.kept K5
     have G5 := d3 G2 K5
     clear CG3 RA2 G2 K5
     go_wp2_with (refine wpList_store_row rfl 99 (.tmp 2) (.tmp 40) rfl R (tkA 5 0 SG 0) rfl rfl 99 _ RA5 I9 rfl (by simp [tkA, Value.oneCell']) ?_)
     refine bodyPost_ret (W8 rfl _ _ R (tkA 5 0 SG 0) _ rfl (RA5.setRow _) Tryz.underlying99 rfl I9) rfl ?_
     exact ⟨by rw [HX.out]; rfl, x5 G5 _ _ (.inr HR.out)⟩

end Go.Proofs.YtklipelnjgpnjaaGreatDoor
