/-
  Package lex as landed: six, quad, name. The variables that package lex's calls read: the list of signs, and two errors of the library's.
-/
import Derived.Test.YtbdmpjnlgdahmaaGreatDoorLotP14
namespace Go.Proofs.YtbdmpjnlgdahmaaGreatDoor
open Go.RowKit
set_option maxRecDepth 100000

def sixV (s : List UInt8) : List UInt8 := if 2 ≤ (s.takeWhile sixB).count 58 then s.takeWhile sixB else []
def quadV (s : List UInt8) : List UInt8 := if (s.takeWhile quadB).contains 46 = true then s.takeWhile quadB else []

set_option maxHeartbeats 1000000 in
theorem six_any (s : ByteArray) (hs : s.size ≤ 140737488355328) (w : World) :
    Calls Tryz.prog 49 #[.string s] w fun e w' => e = .returned (str (sixV (sl s))) ∧ w.grownBy w' none := by
  have hmf : ∀ (fn : Fn) (first cap : Array Value) (w : World), (Instr.makeFunc fn first cap).run Tryz.prog w = .ok (.func fn first cap) w := fun _ _ _ _ => rfl
  have A1 : VAt (w.alloc (.cells #[.int .i64 0] 3)) w.heap.size 3 #[.int .i64 0] := VAt.alloc w 3 #[.int .i64 0]
  have G1 : w.grownBy (w.alloc (.cells #[.int .i64 0] 3)) none := World.grownBy_alloc w _ none
  have C := runsix_any s w.heap.size hs _ A1
  have HG : Hid (w.grownBy _ none) := G1
  clear A1 G1
  have hsix : sixV (sl s) = if 2 ≤ ((sl s).takeWhile sixB).count 58 then (sl s).takeWhile sixB else [] := rfl
  rw [hsix]
  clear hsix
  generalize ((sl s).takeWhile sixB).count 58 = N at *
  generalize (sl s).takeWhile sixB = ans at *
  by_cases hN : 2 ≤ N
  · rw [if_pos hN]
    have hN' : ¬ (N : Int) < 2 := by omega
    clear hN
    go_enter Tryz.func49, Tryz.ntmps49
    go_wp2_with fail
    refine C.mono ?_
    rintro e w2 ⟨rfl, A2, K2⟩
    have c2 : w2.cell? ⟨w.heap.size, 0, none⟩ = some (.int .i64 (N : Int)) := A2.cell 0
    have HG2 : Hid (w.grownBy w2 none) := grown_trans_new HG.out K2 (fun x hx => by injection hx with hx; omega)
    clear C A2 K2 HG
    go_wp2
    go_ret
    exact ⟨rfl, HG2.out⟩
  · rw [if_neg hN]
    have hN' : (N : Int) < 2 := by omega
    clear hN
    go_enter Tryz.func49, Tryz.ntmps49
    go_wp2_with fail
    refine C.mono ?_
    rintro e w2 ⟨rfl, A2, K2⟩
    have c2 : w2.cell? ⟨w.heap.size, 0, none⟩ = some (.int .i64 (N : Int)) := A2.cell 0
    have HG2 : Hid (w.grownBy w2 none) := grown_trans_new HG.out K2 (fun x hx => by injection hx with hx; omega)
    clear C A2 K2 HG
    go_wp2
    go_ret
    exact ⟨rfl, HG2.out⟩

set_option maxHeartbeats 1000000 in
theorem quad_any (s : ByteArray) (hs : s.size ≤ 140737488355328) (w : World) :
    Calls Tryz.prog 50 #[.string s] w fun e w' => e = .returned (str (quadV (sl s))) ∧ w.grownBy w' none := by
  have hmf : ∀ (fn : Fn) (first cap : Array Value) (w : World), (Instr.makeFunc fn first cap).run Tryz.prog w = .ok (.func fn first cap) w := fun _ _ _ _ => rfl
  have A1 : VAt (w.alloc (.cells #[.bool false] 4)) w.heap.size 4 #[.bool false] := VAt.alloc w 4 #[.bool false]
  have G1 : w.grownBy (w.alloc (.cells #[.bool false] 4)) none := World.grownBy_alloc w _ none
  have C := runquad_any s w.heap.size hs _ A1
  have HG : Hid (w.grownBy _ none) := G1
  clear A1 G1
  have hquad : quadV (sl s) = if ((sl s).takeWhile quadB).contains 46 = true then (sl s).takeWhile quadB else [] := rfl
  rw [hquad]
  clear hquad
  generalize ((sl s).takeWhile quadB).contains 46 = N at *
  generalize (sl s).takeWhile quadB = ans at *
  cases N with
  | true =>
    rw [if_pos rfl]
    go_enter Tryz.func50, Tryz.ntmps50
    go_wp2_with fail
    refine C.mono ?_
    rintro e w2 ⟨rfl, A2, K2⟩
    have c2 : w2.cell? ⟨w.heap.size, 0, none⟩ = some (.bool true) := A2.cell 0
    have HG2 : Hid (w.grownBy w2 none) := grown_trans_new HG.out K2 (fun x hx => by injection hx with hx; omega)
    clear C A2 K2 HG
    go_wp2
    go_ret
    exact ⟨rfl, HG2.out⟩
  | false =>
    rw [if_neg (by simp)]
    go_enter Tryz.func50, Tryz.ntmps50
    go_wp2_with fail
    refine C.mono ?_
    rintro e w2 ⟨rfl, A2, K2⟩
    have c2 : w2.cell? ⟨w.heap.size, 0, none⟩ = some (.bool false) := A2.cell 0
    have HG2 : Hid (w.grownBy w2 none) := grown_trans_new HG.out K2 (fun x hx => by injection hx with hx; omega)
    clear C A2 K2 HG
    go_wp2
    go_ret
    exact ⟨rfl, HG2.out⟩

set_option maxHeartbeats 1000000 in
theorem name_any (s : ByteArray) (hs : s.size ≤ 140737488355328) (w : World) :
    Calls Tryz.prog 52 #[.string s] w fun e w' => e = .returned (str ((sl s).takeWhile wordB)) ∧ w = w' := by
  have C := runword_any s hs w
  go_enter Tryz.func52, Tryz.ntmps52
  go_wp2_with fail
  refine C.mono ?_
  rintro e w2 ⟨rfl, rfl⟩
  clear C
  go_wp2
  go_ret
  exact ⟨rfl, rfl⟩

end Go.Proofs.YtbdmpjnlgdahmaaGreatDoor

namespace Go.Proofs.YtbdmpjnlgdahmaaGreatDoor
open Go.RowKit
set_option maxRecDepth 100000

def signsL : List (List UInt8) := twosL ++ onesL.map fun c => [c]

def Tab (w : World) : Prop := (∃ ao cap, w.cell? ⟨0, 0, none⟩ = some (.slice ao 25 cap) ∧ CV w ao (signsL.map str)) ∧ (∃ t v, w.cell? ⟨1, 0, none⟩ = some (.iface t v)) ∧ ∃ t v, w.cell? ⟨2, 0, none⟩ = some (.iface t v)

theorem Tab.grown {w w' : World} (T : Tab w) (G : w.grownBy w' none) : Tab w' := by
  obtain ⟨⟨ao, cap, h1, h2⟩, ⟨t, v, h3⟩, t', u, h4⟩ := T
  exact ⟨⟨ao, cap, G.cell h1 (by simp), h2.keptNone G⟩, ⟨t, v, G.cell h3 (by simp)⟩, t', u, G.cell h4 (by simp)⟩
theorem below_grown {w w' : World} (h : Below w.heap.size w w') : w.grownBy w' none := ⟨h.os, h.tape, h.output, h.size, fun k hk _ => h.block k hk⟩

theorem find_pre (n : Nat) : ∀ (L : List (List UInt8)) (_ : ∀ x ∈ L, x.length = n) (s : List UInt8), L.find? (fun x => x.isPrefixOf s) = if s.take n ∈ L then some (s.take n) else none
  | [], _, s => by simp
  | x :: L, h, s => by
    have hx : x.length = n := h x (List.mem_cons_self ..)
    have ih := find_pre n L (fun y hy => h y (List.mem_cons_of_mem _ hy)) s
    by_cases hp : x.isPrefixOf s = true
    · have e : x = s.take n := by
        have := List.prefix_iff_eq_take.1 (List.isPrefixOf_iff_prefix.1 hp)
        rw [hx] at this
        exact this
      rw [List.find?_cons_of_pos (p := fun x : List UInt8 => x.isPrefixOf s) hp, if_pos (by rw [← e]; exact List.mem_cons_self ..), ← e]
    · rw [List.find?_cons_of_neg (p := fun x : List UInt8 => x.isPrefixOf s) hp, ih]
      have e : ¬ s.take n = x := fun e => hp (List.isPrefixOf_iff_prefix.2 (by rw [← e]; exact List.take_prefix ..))
      by_cases hm : s.take n ∈ L
      · rw [if_pos hm, if_pos (List.mem_cons_of_mem _ hm)]
      · rw [if_neg hm, if_neg (by simp [e, hm])]

/-- The sign that a row of signs finds. -/
def findV (L : List (List UInt8)) (s : List UInt8) : List UInt8 := match L.find? (fun x => x.isPrefixOf s) with
  | some x => x
  | none => []
theorem sign_find (s : List UInt8) : signV s = findV signsL s := by
  unfold findV signsL
  rw [List.find?_append, find_pre 2 twosL (by decide), find_pre 1 (onesL.map fun c => [c]) (by decide)]
  unfold signV
  by_cases h2 : s.take 2 ∈ twosL
  · rw [if_pos h2, if_pos h2]
    rfl
  · rw [if_neg h2, if_neg h2, Option.none_or]
    cases s with
    | nil => decide
    | cons c r =>
      have e1 : (c :: r).take 1 = [c] := rfl
      rw [e1]
      by_cases hc : onesL.contains c = true
      · rw [if_pos (by simpa using hc), if_pos (by simpa using hc)]
      · rw [if_neg (by simpa using hc), if_neg (by simpa using hc)]

theorem findV_hit {L : List (List UInt8)} {K s : List UInt8} (h : K.isPrefixOf s = true) : findV (K :: L) s = K := by
  unfold findV; rw [List.find?_cons_of_pos (p := fun x : List UInt8 => x.isPrefixOf s) h]
theorem findV_miss {L : List (List UInt8)} {K s : List UInt8} (h : K.isPrefixOf s = false) : findV (K :: L) s = findV L s := by
  unfold findV; rw [List.find?_cons_of_neg (p := fun x : List UInt8 => x.isPrefixOf s) (by rw [h]; simp)]
theorem pre_take {K s : List UInt8} (h : K.isPrefixOf s = true) : s.take K.length = K := (List.prefix_iff_eq_take.1 (List.isPrefixOf_iff_prefix.1 h)).symm
theorem pre_step {K s : List UInt8} {a b : UInt8} : (a :: K).isPrefixOf (b :: s) = (a == b && K.isPrefixOf s) := rfl

set_option maxRecDepth 100000 in
set_option maxHeartbeats 4000000 in
theorem sign_any (s : ByteArray) (hs : s.size ≤ 140737488355328) (w : World) (T : Tab w) :
    Calls Tryz.prog 53 #[.string s] w fun e w' => e = .returned (str (signV (sl s))) ∧ w.grownBy w' none := by
  obtain ⟨⟨ao, cap, h1, h2⟩, -⟩ := T
  rw [sign_find]
  obtain ⟨ans, hans⟩ : ∃ ans, findV signsL (sl s) = ans := ⟨_, rfl⟩
  rw [hans]
  have HA : Hid (findV (signsL.drop 0) (sl s) = ans) := hans
  have HC : Hid (CV w ao (signsL.map str)) := h2
  have hlen : Hid (signsL.length = 25) := rfl
  have hmost : Hid (∀ K ∈ signsL, K.length ≤ 2) := by show ∀ K ∈ signsL, K.length ≤ 2; decide
  clear hans h2
  generalize signsL = L at *
  go_enter Tryz.func53, Tryz.ntmps53
  go_wp2; go_step3
  go_wp2; go_step3
  go_wp2
  clear h1
  go_loopw [8] (fun i wr => ∃ j : Nat, j ≤ 25 ∧ i = .int .i64 j ∧ Hid (findV (L.drop j) (sl s) = ans) ∧ w.grownBy wr none) (fun i _ => 25 - (intOf i).toNat)
  case atStart => exact ⟨0, Nat.zero_le _, rfl, HA, World.grownBy.refl _ _⟩
  case round =>
    clear HA
    obtain ⟨j, hj, rfl, HI, G⟩ := hrel
    by_cases hlt : j < 25
    · have hji : (j : Int) < 25 := by omega
      have hjl : j < L.length := by rw [hlen.out]; exact hlt
      have HD : Hid (L.drop j = L[j] :: L.drop (j + 1)) := List.drop_eq_getElem_cons hjl
      obtain ⟨bb, o, rfl, hc⟩ := HC.out.addr (k := j) (by rw [List.length_map]; exact hjl)
      have hcj := hc j (by rw [List.length_map]; exact hjl)
      rw [List.getElem_map] at hcj
      have hk2 := hmost.out L[j] (List.getElem_mem hjl)
      have c0 : wr.cell? ⟨bb, o + j, none⟩ = some (str L[j]) := G.cell hcj (by simp)
      clear hc hcj HC hmost hlen
      generalize L[j] = K at *
      obtain ⟨KB, hKB⟩ : ∃ KB : ByteArray, ⟨K.toArray⟩ = KB := ⟨_, rfl⟩
      have hsl : sl KB = K := by rw [← hKB]; rfl
      have hsz : KB.size = K.length := by rw [← sl_len, hsl]
      have HK : Hid (sl KB = K) := hsl
      have hst : str K = .string KB := by rw [str, hKB]
      rw [hst] at c0
      have hki : (KB.size : Int) ≤ 2 := by omega
      have HSZ : Hid (KB.size = K.length) := hsz
      have HG : Hid (w.grownBy wr none) := G
      clear hKB hsl hst G hsz
      go_wp2
      clear c0
      go_loopw [14] (fun i wr => ∃ q : Nat, q ≤ KB.size ∧ i = .int .i64 q ∧ Hid (K.isPrefixOf (sl s) = (K.drop q).isPrefixOf ((sl s).drop q)) ∧ w.grownBy wr none) (fun i _ => KB.size - (intOf i).toNat)
      case atStart => exact ⟨0, Nat.zero_le _, rfl, rfl, HG.out⟩
      case round =>
        clear HG
        obtain ⟨q, hq, rfl, HQ, G⟩ := hrel
        have HG : Hid (w.grownBy wr none) := G
        clear G
        have z0 : (0 : Int) ≤ (q : Int) := by omega
        by_cases hqk : q < KB.size
        · have hqi : (q : Int) < (KB.size : Int) := by omega
          have HKD : Hid (K.drop q = KB[q] :: K.drop (q + 1)) := by show K.drop q = _; rw [← HK.out]; exact sl_drop KB q hqk
          by_cases hqs : q < s.size
          · have hqsi : ¬ (s.size : Int) ≤ (q : Int) := by omega
            have hqs' : (q : Int) < (s.size : Int) := by omega
            have HSD : Hid ((sl s).drop q = s[q] :: (sl s).drop (q + 1)) := sl_drop s q hqs
            by_cases he : s[q] = KB[q]
            · have heb : ((s[q].toNat : Int) != (KB[q].toNat : Int)) = false := by rw [he]; simp
              have HN : Hid (K.isPrefixOf (sl s) = (K.drop (q + 1)).isPrefixOf ((sl s).drop (q + 1))) := by
                show _ = _
                rw [HQ.out, HKD.out, HSD.out, pre_step, he]
                simp
              clear HQ HKD HSD he
              go_wp2
              go_quiet (fail)
              go_wp2
              go_roundw
              case rel => exact ⟨q + 1, by omega, by go_num, HN, grown_trans HG.out (grown_drewN _ _ none)⟩
              case measure => simp [intOf]; omega
            · have heb : ((s[q].toNat : Int) != (KB[q].toNat : Int)) = true := by
                simp only [bne_iff_ne, ne_eq]
                intro e
                exact he (UInt8.toNat_inj.1 (by omega))
              have HN : Hid (K.isPrefixOf (sl s) = false) := by
                show _ = _
                rw [HQ.out, HKD.out, HSD.out, pre_step]
                simp only [Bool.and_eq_false_iff, beq_eq_false_iff_ne]
                exact .inl (fun e => he e.symm)
              clear HQ HKD HSD he
              go_wp2
              go_quiet (fail)
              go_wp2
              go_roundw
              case rel => exact ⟨j + 1, by omega, by go_num, by show findV (L.drop (j + 1)) (sl s) = ans; rw [← HI.out, HD.out, findV_miss HN.out], grown_trans HG.out (grown_drewN _ _ none)⟩
              case measure => simp [intOf]; omega
          · have hqsi : (s.size : Int) ≤ (q : Int) := by omega
            have HN : Hid (K.isPrefixOf (sl s) = false) := by
              show _ = _
              rw [HQ.out, HKD.out, List.drop_eq_nil_of_le («as» := sl s) (i := q) (by rw [sl_len]; omega)]
              rfl
            clear HQ HKD
            go_wp2
            go_quiet (fail)
            go_wp2
            go_roundw
            case rel => exact ⟨j + 1, by omega, by go_num, by show findV (L.drop (j + 1)) (sl s) = ans; rw [← HI.out, HD.out, findV_miss HN.out], grown_trans HG.out (grown_drewN _ _ none)⟩
            case measure => simp [intOf]; omega
        · obtain rfl : q = KB.size := by omega
          have hqi : ¬ (KB.size : Int) < (KB.size : Int) := by omega
          have HN : Hid (K.isPrefixOf (sl s) = true) := by
            show _ = _
            rw [HQ.out, List.drop_eq_nil_of_le («as» := K) (by rw [HSZ.out]; exact Nat.le_refl _)]
            rfl
          have hle : KB.size ≤ s.size := by
            have := List.IsPrefix.length_le (List.isPrefixOf_iff_prefix.1 HN.out)
            rw [sl_len] at this
            rw [HSZ.out]
            exact this
          have hle' : (KB.size : Int) ≤ (s.size : Int) := by omega
          have HE : Hid (Value.string (s.extract 0 KB.size) = str ans) := by
            show _ = _
            rw [str_sl, sl_extract, ← HI.out, HD.out, findV_hit HN.out, HSZ.out]
            congr 1
            simpa using pre_take HN.out
          clear HQ hqk
          go_wp2
          go_ret
          exact ⟨by rw [HE.out]; rfl, HG.out⟩
    · obtain rfl : j = 25 := by omega
      have HE : Hid (([] : List UInt8) = ans) := by
        show _ = _
        rw [← HI.out, List.drop_eq_nil_of_le (by rw [hlen.out]; exact Nat.le_refl _)]
        rfl
      go_wp2
      rw [Exit.noGoto_ret]
      go_ret
      exact ⟨by rw [← HE.out]; rfl, G⟩

end Go.Proofs.YtbdmpjnlgdahmaaGreatDoor
