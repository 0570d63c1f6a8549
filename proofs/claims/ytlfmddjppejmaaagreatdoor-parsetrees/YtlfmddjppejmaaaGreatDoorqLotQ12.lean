import Derived.Test.YtlfmddjppejmaaaGreatDoorqLotQ3
import Derived.Test.YtlfmddjppejmaaaGreatDoorqLotQ2
import Derived.Laws.Rows
import Derived.Laws.ResultCell
import Derived.Deep.DeepCutAuto
set_option maxHeartbeats 64000000
set_option maxRecDepth 100000
namespace Go.Proofs.YtlfmddjppejmaaaGreatDoor
open Go.RowKit
theorem a5a (s : ByteArray) (b : UInt8) (w : World) (hs : s.size ≤ 1048576) :
  Calls Tryz.prog 88 #[.string s, .int .u8 (b.toNat : Int)] w fun e w' => ∃ v, e = .returned v ∧ a02 w' w.heap.size v (f9 b (sl s)) ∧ w.grownBy w' none := by
 obtain ⟨i0, hi, hz0, hz1, hz2⟩ := info_parts a7i
 go_enter Tryz.func88, Tryz.ntmps88
 go_wp2
 go_loopw [5, 6, 7] (fun o f i wr => ∃ (j g : Nat) (ls : List (List UInt8)), g ≤ j ∧ j ≤ s.size ∧ ls.length ≤ j ∧ i = .int .i64 j ∧ f = .int .i64 g ∧ ls ++ E2 b (((sl s).drop g).take (j - g)) ((sl s).drop j) = f9 b (sl s) ∧ a02 wr w.heap.size o ls ∧ w.grownBy wr none) (fun _ _ i _ => s.size - (intOf i).toNat)
 case atStart => exact ⟨0, 0, [], Nat.le_refl _, Nat.zero_le _, Nat.le_refl _, rfl, rfl, rfl, World.ownsRow_nil _ _ _ _, World.grownBy.refl _ _⟩
 case round =>
  obtain ⟨j, g, ls, hgj, hj, hll, rfl, rfl, hls, O, G⟩ := hrel
  have HN : Hid (ls ++ E2 b (((sl s).drop g).take (j - g)) ((sl s).drop j) = f9 b (sl s)) := hls
  clear hls
  by_cases hlt : j < s.size
  ·have hji : (j : Int) < (s.size : Int) := by omega
   have HS : Hid ((sl s).drop j = s[j] :: (sl s).drop (j + 1)) := D8 s j hlt
   have hb := s[j].toNat_lt
   by_cases hd : s[j] = b
   ·have hd1 : ((s[j].toNat : Int) == (b.toNat : Int)) = true := by rw [hd]; simp
    have HE : Hid ((ls ++ [sl (s.extract g j)]) ++ E2 b (((sl s).drop (j + 1)).take (j + 1 - (j + 1))) ((sl s).drop (j + 1)) = f9 b (sl s)) := by
     show (ls ++ [sl (s.extract g j)]) ++ E2 b (((sl s).drop (j + 1)).take (j + 1 - (j + 1))) ((sl s).drop (j + 1)) = f9 b (sl s)
     rw [← HN.out, HS.out, hd, E2, if_pos rfl, N1, Nat.sub_self]
     simp
    clear hd
    have hgi : (g : Int) ≤ (j : Int) := by omega
    have hjs : (j : Int) ≤ (s.size : Int) := by omega
    have HT : Hid (Value.string (s.extract g j) = str (sl (s.extract g j))) := K0 _
    go_wp2_with (at_builtin; refine Y5 rfl (.tmp 19) (.tmp 24) 94 rfl 9 i0 (.string ⟨#[]⟩) 1 16 Tryz.underlying94 hi hz0 hz1 hz2 rfl (by decide) w.heap.size u5 ls.length (ls.map str) rfl ?q1 (some ⟨wr.heap.size, 0, none⟩) 1 1 [.string (s.extract g j)] rfl rfl (by simp) ?q2 (by simp [Value.oneCell']) ?q3 ?q4 ?q5 ?q6)
    case q1 => exact O.alloc _
    case q2 => exact m8 wr _ _
    case q3 => unfold maxLen; omega
    case q4 => omega
    case q5 => have := G.size; simp; omega
    case q6 =>
     intro y2 w2 O2 K2
     have G2 : w.grownBy w2 none := z6 (d5 G (World.grownBy_alloc _ _ _)) K2 (fun z hz => (O.lt z hz).1)
     have O3 : a02 w2 w.heap.size y2 (ls ++ [sl (s.extract g j)]) := by
      unfold a02
      rw [List.length_append, List.map_append]
      rw [HT.out] at O2
      exact O2
     clear O2 K2 O G
     go_wp2
     go_roundw
     case rel => exact ⟨j + 1, j + 1, ls ++ [sl (s.extract g j)], Nat.le_refl _, by omega, by simp; omega, by go_num, by go_num, HE.out, O3, G2⟩
     case measure => simp [intOf]; omega
   ·have hd1 : ((s[j].toNat : Int) == (b.toNat : Int)) = false := by
     rw [beq_eq_false_iff_ne]
     intro h
     exact hd (UInt8.toNat_inj.1 (by omega))
    have HE : Hid (ls ++ E2 b (((sl s).drop g).take (j + 1 - g)) ((sl s).drop (j + 1)) = f9 b (sl s)) := by
     show ls ++ E2 b (((sl s).drop g).take (j + 1 - g)) ((sl s).drop (j + 1)) = f9 b (sl s)
     have e : ((sl s).drop g).take (j + 1 - g) = ((sl s).drop g).take (j - g) ++ [s[j]] := by
      exact ag8 s g j hgj hlt
     rw [← HN.out, HS.out, E2, if_neg hd, e]
    clear hd
    go_wp2
    go_roundw
    case rel => exact ⟨j + 1, g, ls, by omega, by omega, by omega, by go_num, rfl, HE.out, O, G⟩
    case measure => simp [intOf]; omega
  ·obtain rfl : j = s.size := by omega
   have e0 : (sl s).drop s.size = [] := List.drop_eq_nil_of_le (by rw [j0]; omega)
   have hgi2 : (g : Int) ≤ (s.size : Int) := by omega
   have HE : Hid (f9 b (sl s) = ls ++ [sl (s.extract g s.size)]) := by
    show f9 b (sl s) = ls ++ [sl (s.extract g s.size)]
    rw [← HN.out, e0, E2, N1]
   have HT : Hid (Value.string (s.extract g s.size) = str (sl (s.extract g s.size))) := K0 _
   clear e0
   go_wp2_with (at_builtin; refine Y5 rfl (.tmp 28) (.tmp 32) 94 rfl 9 i0 (.string ⟨#[]⟩) 1 16 Tryz.underlying94 hi hz0 hz1 hz2 rfl (by decide) w.heap.size u5 ls.length (ls.map str) rfl ?r1 (some ⟨wr.heap.size, 0, none⟩) 1 1 [.string (s.extract g s.size)] rfl rfl (by simp) ?r2 (by simp [Value.oneCell']) ?r3 ?r4 ?r5 ?r6)
   case r1 => exact O.alloc _
   case r2 => exact m8 wr _ _
   case r3 => unfold maxLen; omega
   case r4 => omega
   case r5 => have := G.size; simp; omega
   case r6 =>
    intro y2 w2 O2 K2
    have G2 : w.grownBy w2 none := z6 (d5 G (World.grownBy_alloc _ _ _)) K2 (fun z hz => (O.lt z hz).1)
    have O3 : a02 w2 w.heap.size y2 (ls ++ [sl (s.extract g s.size)]) := by
     unfold a02
     rw [List.length_append, List.map_append]
     rw [HT.out] at O2
     exact O2
    clear O2 K2 O G
    go_wp2
    go_ret
    exact ⟨_, rfl, by rw [HE.out]; exact O3, G2⟩
theorem a7d (s : List UInt8) (v n : Nat) (h : J7 v s = some n) : n < (v + 1) * 16 ^ s.length := by
 induction s generalizing v with
 | nil => simp [J7] at h; subst h; simp
 | cons c r ih =>
  rw [J7] at h
  split at h
  ·have h1 := ih _ h
   have h2 := a1d c.toNat
   have h3 : (16 * v + m9 c.toNat + 1) * 16 ^ r.length ≤ (16 * (v + 1)) * 16 ^ r.length := Nat.mul_le_mul_right _ (by omega)
   rw [List.length_cons, Nat.pow_succ, Nat.mul_comm (16 ^ r.length) 16, ← Nat.mul_assoc, Nat.mul_comm (v + 1) 16]
   omega
  ·cases h
theorem a2s {s : List UInt8} {n : Nat} (h : o5 s = some n) : n < 65536 := by
 unfold o5 at h
 split at h
 ·cases h
 ·have h1 := a7d s 0 n h
  have h2 : 16 ^ s.length ≤ 16 ^ 4 := Nat.pow_le_pow_right (by decide) (by omega)
  omega
theorem a97 (s : ByteArray) (w : World) :
  Calls Tryz.prog 95 #[.string s] w fun e w' => e = .returned (.tuple #[.int .i64 (((o5 (sl s)).getD 0 : Nat) : Int), .bool (o5 (sl s)).isSome]) ∧ w = w' := by
 have hl := j0 s
 by_cases h0 : s.size < 1
 ·have e : o5 (sl s) = none := by rw [o5, if_pos (by omega)]
  rw [e]
  have h0' : (s.size : Int) < 1 := by omega
  clear hl
  go_enter Tryz.func95, Tryz.ntmps95
  go_wp2
  all_goals (go_ret2; exact ⟨rfl, rfl⟩)
 ·by_cases h4 : 4 < s.size
  ·have e : o5 (sl s) = none := by rw [o5, if_pos (by omega)]
   rw [e]
   have h0' : ¬ (s.size : Int) < 1 := by omega
   have h4' : (4 : Int) < (s.size : Int) := by omega
   clear hl
   go_enter Tryz.func95, Tryz.ntmps95
   go_wp2
   all_goals (go_ret2; exact ⟨rfl, rfl⟩)
  ·have e : o5 (sl s) = J7 0 (sl s) := by rw [o5, if_neg (by omega)]
   rw [e]
   have h0' : ¬ (s.size : Int) < 1 := by omega
   have h4' : ¬ (4 : Int) < (s.size : Int) := by omega
   obtain ⟨ans, hans⟩ : ∃ ans, J7 0 (sl s) = ans := ⟨_, rfl⟩
   rw [hans]
   have HA : Hid (J7 0 (sl s) = ans) := hans
   clear e hans hl
   go_enter Tryz.func95, Tryz.ntmps95
   go_wp2
   clear h0' h4'
   go_loop [4, 5] (fun x i => ∃ k v : Nat, k ≤ s.size ∧ Hid (v < 16 ^ k) ∧ i = .int .i64 k ∧ x = .int .i64 v ∧ J7 v ((sl s).drop k) = ans) (fun _ i => s.size - (intOf i).toNat)
   case atStart => exact ⟨0, 0, Nat.zero_le _, (by decide : 0 < 16 ^ 0), rfl, rfl, HA.out⟩
   case round =>
    obtain ⟨k, v, hk, HV0, rfl, rfl, hi⟩ := hrel
    have HI : Hid (J7 v ((sl s).drop k) = ans) := hi
    clear hi
    have hv4 : v < 65536 := by
     have h1 : 16 ^ k ≤ 65536 := Nat.pow_le_pow_right (n := 16) (j := 4) (by decide) (by omega)
     exact Nat.lt_of_lt_of_le HV0.out h1
    by_cases hlt : k < s.size
    ·have hki : (k : Int) < (s.size : Int) := by omega
     have HS : Hid ((sl s).drop k = s[k] :: (sl s).drop (k + 1)) := D8 s k hlt
     have hb := s[k].toNat_lt
     have hdl := a1d s[k].toNat
     cases hd : v6 s[k].toNat with
     | true =>
      have HN : Hid (J7 (16 * v + m9 s[k].toNat) ((sl s).drop (k + 1)) = ans) := by
       show _ = ans
       rw [← HI.out, HS.out, J7, if_pos hd]
      have HV : Hid (16 * v + m9 s[k].toNat < 16 ^ (k + 1)) := by
       show 16 * v + m9 s[k].toNat < 16 ^ (k + 1)
       have := HV0.out
       rw [Nat.pow_succ]; omega
      clear HV0
      go_wp2_with (go_at_call 56; refine (a1Y _ _ (by omega)).mono ?_; rintro e w' ⟨rfl, rfl⟩; rw [hd, if_pos rfl])
      go_round
      case rel => exact ⟨k + 1, 16 * v + m9 s[k].toNat, by omega, HV, by go_num, by go_num, HN.out⟩
      case measure => simp [intOf]; omega
     | false =>
      have hans : ans = none := by rw [← HI.out, HS.out, J7, if_neg (by rw [hd]; simp)]
      have HAN : Hid (ans = none) := hans
      clear HV0 hans
      go_wp2_with (go_at_call 56; refine (a1Y _ _ (by omega)).mono ?_; rintro e w' ⟨rfl, rfl⟩; rw [hd, if_neg (by simp)])
      go_ret2
      exact ⟨by rw [HAN.out]; rfl, rfl⟩
    ·obtain rfl : k = s.size := by omega
     have hans : ans = some v := by
      rw [← HI.out, List.drop_eq_nil_of_le (by rw [j0]; omega)]; rfl
     have HAN : Hid (ans = some v) := hans
     clear HV0 hans
     go_wp2
     go_ret2
     exact ⟨by rw [HAN.out]; rfl, rfl⟩
theorem a3X (a : UInt8) (r : List UInt8) : x7 (a :: r) = if a = 58 ∧ r.head? = some 58 then some 0 else (x7 r).map fun k => k + 1 := rfl
def T8 : Option Nat → Int
 | none => -1
 | some k => k
theorem a96 (s : ByteArray) (w : World) (hs : s.size ≤ 1099511627776) :
  Calls Tryz.prog 89 #[.string s] w fun e w' => e = .returned (.int .i64 (T8 (x7 (sl s)))) ∧ w = w' := by
 obtain ⟨ans, hans⟩ : ∃ ans, x7 (sl s) = ans := ⟨_, rfl⟩
 rw [hans]
 have HA : Hid (x7 (sl s) = ans) := hans
 clear hans
 go_enter Tryz.func89, Tryz.ntmps89
 go_wp2
 go_loop [3] (fun i => ∃ k : Nat, k ≤ s.size ∧ i = .int .i64 k ∧ Hid (((x7 ((sl s).drop k)).map fun m => m + k) = ans)) (fun i => s.size - (intOf i).toNat)
 case atStart =>
  refine ⟨0, Nat.zero_le _, rfl, ?_⟩
  show ((x7 ((sl s).drop 0)).map fun m => m + 0) = ans
  rw [← HA.out, List.drop_zero]
  cases x7 (sl s) <;> rfl
 case round =>
  obtain ⟨k, hk, rfl, HI⟩ := hrel
  by_cases hlt : k + 1 < s.size
  ·have hki : (k : Int) + 1 < (s.size : Int) := by omega
   have hk0 : (k : Int) < (s.size : Int) := by omega
   have HS : Hid ((sl s).drop k = s[k] :: (sl s).drop (k + 1)) := D8 s k (by omega)
   have HS2 : Hid ((sl s).drop (k + 1) = s[k + 1] :: (sl s).drop (k + 2)) := D8 s (k + 1) hlt
   have b0 := s[k].toNat_lt
   have b1 := s[k + 1].toNat_lt
   have e58 : ∀ c : UInt8, ((c.toNat : Int) == 58) = true ↔ c = 58 := fun c => by
    rw [beq_iff_eq]
    constructor
    ·intro h; exact UInt8.toNat_inj.1 (by simp; omega)
    ·intro h; rw [h]; rfl
   have HG : Hid (ans = if s[k] = 58 ∧ s[k + 1] = 58 then some k else ((x7 ((sl s).drop (k + 1))).map fun m => m + (k + 1))) := by
    show ans = _
    rw [← HI.out, HS.out, a3X, HS2.out]
    simp only [List.head?_cons, Option.some.injEq]
    split
    ·simp
    ·cases x7 (s[k + 1] :: (sl s).drop (k + 2)) with
     | none => rfl
     | some m => simp only [Option.map_some]; congr 1; omega
   clear HI HS HS2
   by_cases h1 : s[k] = 58
   ·have h1b : ((s[k].toNat : Int) == 58) = true := (e58 _).2 h1
    by_cases h2 : s[k + 1] = 58
    ·have h2b : ((s[k + 1].toNat : Int) == 58) = true := (e58 _).2 h2
     have HAN : Hid (ans = some k) := by
      show ans = some k
      rw [HG.out, if_pos ⟨h1, h2⟩]
     clear h1 h2 HG e58
     go_wp2
     go_ret
     exact ⟨by rw [HAN.out]; rfl, rfl⟩
    ·have h2b : ((s[k + 1].toNat : Int) == 58) = false := by
      cases h : ((s[k + 1].toNat : Int) == 58) with
      | false => rfl
      | true => exact absurd ((e58 _).1 h) h2
     have HAN : Hid (((x7 ((sl s).drop (k + 1))).map fun m => m + (k + 1)) = ans) := by
      show _ = ans
      rw [HG.out, if_neg (fun e => h2 e.2)]
     clear h1 h2 HG e58
     go_wp2
     go_round
     case rel => exact ⟨k + 1, by omega, by go_num, HAN⟩
     case measure => simp [intOf]; omega
   ·have h1b : ((s[k].toNat : Int) == 58) = false := by
     cases h : ((s[k].toNat : Int) == 58) with
     | false => rfl
     | true => exact absurd ((e58 _).1 h) h1
    have HAN : Hid (((x7 ((sl s).drop (k + 1))).map fun m => m + (k + 1)) = ans) := by
     show _ = ans
     rw [HG.out, if_neg (fun e => h1 e.1)]
    clear h1 HG e58
    go_wp2
    go_round
    case rel => exact ⟨k + 1, by omega, by go_num, HAN⟩
    case measure => simp [intOf]; omega
  ·have hki : ¬ (k : Int) + 1 < (s.size : Int) := by omega
   have HAN : Hid (ans = none) := by
    show ans = none
    rw [← HI.out]
    cases hd : (sl s).drop k with
    | nil => rfl
    | cons c r =>
     have : (c :: r).length = s.size - k := by rw [← hd, List.length_drop, j0]
     have hr : r = [] := List.eq_nil_of_length_eq_zero (by simp at this; omega)
     rw [hr, a3X, if_neg (by simp)]
     rfl
   go_wp2
   go_ret
   exact ⟨by rw [HAN.out]; rfl, rfl⟩
theorem a1h : (Tryz.prog.info? 3).map (fun i => (i.zero, i.size, i.bytes)) = some (some (.int .i64 0), 1, 8) := by kernel_rfl
def gv (n : Nat) : Value := .int .i64 (n : Int)
abbrev a1w (w : World) (base : Nat) (v : Value) (ns : List Nat) : Prop := w.ownsRow base 3 1 v ns.length (ns.map gv)
theorem CV.strs {w : World} {ao : Option Addr} {ls : List (List UInt8)} (h : CV w ao (ls.map str)) {k : Nat} (hk : k < ls.length) :
  ∃ b off, ao = some ⟨b, off, none⟩ ∧ ∀ i (hi : i < ls.length), w.cell? ⟨b, off + i, none⟩ = some (str ls[i]) := by
 obtain ⟨b, off, hao, hc⟩ := h.addr (k := k) (by simpa using hk)
 exact ⟨b, off, hao, fun i hi => by rw [hc i (by simpa using hi)]; simp⟩
theorem CV.nums {w : World} {ao : Option Addr} {ns : List Nat} (h : CV w ao (ns.map gv)) {k : Nat} (hk : k < ns.length) :
  ∃ b off, ao = some ⟨b, off, none⟩ ∧ ∀ i (hi : i < ns.length), w.cell? ⟨b, off + i, none⟩ = some (.int .i64 (ns[i] : Int)) := by
 obtain ⟨b, off, hao, hc⟩ := h.addr (k := k) (by simpa using hk)
 exact ⟨b, off, hao, fun i hi => by rw [hc i (by simpa using hi)]; simp [gv]⟩
def AAt (w : World) (g t : Nat) (xs : List UInt8) : Prop := w.heap[g]? = some (.cells (xs.map bv).toArray t (0, 0))
theorem AAt.cell {w : World} {g t : Nat} {xs : List UInt8} (h : AAt w g t xs) {i : Nat} (hi : i < xs.length) : w.cell? ⟨g, i, none⟩ = some (.int .u8 (xs[i].toNat : Int)) := by
 unfold AAt at h
 rw [cell_of_row w g i _ t (0, 0) h]
 simp [hi, bv]
theorem AAt.free {w : World} {g t : Nat} {xs : List UInt8} (h : AAt w g t xs) (i : Nat) : w.frozen? ⟨g, i, none⟩ = false := by
 unfold AAt at h
 simp [World.frozen?, h]
theorem AAt.lt {w : World} {g t : Nat} {xs : List UInt8} (h : AAt w g t xs) : g < w.heap.size := by
 unfold AAt at h
 by_cases hb : g < w.heap.size
 ·exact hb
 ·rw [Array.getElem?_eq_none (by omega)] at h; cases h
theorem AAt.grown {w w' : World} {g t : Nat} {xs : List UInt8} {row : Option Nat} (h : AAt w g t xs) (G : w.grownBy w' row) (hr : row ≠ some g) : AAt w' g t xs := by
 have := G.block g h.lt (Ne.symm hr)
 unfold AAt at *
 rw [this, h]
theorem AAt.set {w : World} {g t : Nat} {xs : List UInt8} (h : AAt w g t xs) (i n : Nat) (hn : n < 256) : AAt (w.setCell ⟨g, i, none⟩ (.int .u8 (n : Int))) g t (xs.set i (UInt8.ofNat n)) := by
 unfold AAt at *
 have e : bv (UInt8.ofNat n) = .int .u8 (n : Int) := by
  unfold bv
  rw [UInt8.toNat_ofNat_of_lt' (by simpa using hn)]
 simp only [World.setCell, Array.getElem?_modify, h, if_true, Option.map_some]
 rw [List.map_set, e]
 simp
theorem AAt.alloc (w : World) (t : Nat) (xs : List UInt8) : AAt (w.alloc (.cells (xs.map bv).toArray t)) w.heap.size t xs := heap_alloc_new w _
theorem AAt.drew {w : World} {g t : Nat} {xs : List UInt8} (h : AAt w g t xs) : AAt w.drew g t xs := h
theorem AAt.setRow {w : World} {g t : Nat} {xs : List UInt8} (h : AAt w g t xs) (ys : List UInt8) : AAt (w.setRow g (ys.map bv).toArray) g t ys := by
 unfold AAt at *
 exact setRow_heap w g _ _ t _ h
theorem a43 (w : World) (g k : Nat) (cs : Array Value) (h : k ≠ g) : (w.setRow g cs).heap[k]? = w.heap[k]? := by
 simp [World.setRow, Array.getElem?_modify, Ne.symm h]
theorem T9 {w W : World} {row : Option Nat} (G : w.grownBy W row) (g : Nat) (cs : Array Value) (hg : row = some g ∨ w.heap.size ≤ g) : w.grownBy (W.setRow g cs) row := by
 refine ⟨G.os, G.tape, G.output, by rw [setRow_size]; exact G.size, fun i hi hr => ?_⟩
 have : i ≠ g := by
  rintro rfl
  rcases hg with hg | hg
  ·exact hr hg.symm
  ·omega
 rw [a43 _ _ _ _ this]
 exact G.block i hi hr
theorem AAt.other {w : World} {g t k : Nat} {xs : List UInt8} (h : AAt w g t xs) (cs : Array Value) (hk : g ≠ k) : AAt (w.setRow k cs) g t xs := by
 unfold AAt at *
 rw [a43 _ _ _ _ hk]
 exact h
theorem AAt.setOther {w : World} {g t k i : Nat} {xs : List UInt8} (h : AAt w g t xs) (u : Value) (hk : g ≠ k) : AAt (w.setCell ⟨k, i, none⟩ u) g t xs := by
 unfold AAt at *
 simp only [World.setCell, Array.getElem?_modify, if_neg (Ne.symm hk)]
 exact h
theorem I1 (xs : List UInt8) : (xs.map bv).toArray.all (·.oneCell') = true := by
 rw [Array.all_eq_true_iff_forall_mem]
 intro v hv
 exact Y6 xs v (by simpa using hv)
theorem A5 (xs : List UInt8) : (xs.map bv).toArray.size = xs.length := by simp
theorem a52 (s : ByteArray) (w : World) (hs : s.size ≤ 1048576) :
  Calls Tryz.prog 90 #[.string s] w fun e w' => ∃ v, e = .returned (.tuple #[v, .bool (k6 (sl s)).isSome]) ∧ a1w w' w.heap.size v ((k6 (sl s)).getD []) ∧ w.grownBy w' none := by
 obtain ⟨i0, hi, hz0, hz1, hz2⟩ := info_parts a1h
 have hl := j0 s
 by_cases h0 : s.size = 0
 ·have hn : sl s = [] := List.eq_nil_of_length_eq_zero (by omega)
  have e : k6 (sl s) = some [] := by rw [k6, if_pos hn]
  rw [e]
  obtain rfl : s = ⟨#[]⟩ := by
   have := congrArg List.toArray hn
   unfold sl at this
   apply ByteArray.ext
   simpa using this
  clear hn e hl h0
  go_enter Tryz.func90, Tryz.ntmps90
  go_wp2
  go_ret2
  exact ⟨_, rfl, World.ownsRow_nil _ _ _ _, World.grownBy.refl _ _⟩
 ·have hne : sl s ≠ [] := fun e => by rw [e] at hl; simp at hl; omega
  have hE : k6 (sl s) = if 8 < (f9 58 (sl s)).length then none else t7 o5 (f9 58 (sl s)) := by rw [k6, if_neg hne]
  have hm := a1r 58 [] (sl s)
  have hea := a5r 58 [] (sl s)
  have hsb : (s.toList == []) = false := by
   rw [ByteArray.toList_eq]
   exact beq_eq_false_iff_ne.2 hne
  have HM : Hid ((f9 58 (sl s)).length ≤ 1048577) := by
   show (E2 58 [] (sl s)).length ≤ 1048577
   omega
  have CS : Hid (Calls Tryz.prog 88 #[.string s, .int .u8 58] w fun e w' => ∃ v, e = .returned v ∧ a02 w' w.heap.size v (f9 58 (sl s)) ∧ w.grownBy w' none) := a5a s 58 w hs
  have HEA : Hid (∀ l ∈ f9 58 (sl s), l.length ≤ 1048576) := fun l hl' => by have := hea l hl'; simp at this; omega
  have HE : Hid (k6 (sl s) = if 8 < (f9 58 (sl s)).length then none else t7 o5 (f9 58 (sl s))) := hE
  clear hE hm hea hne hl h0
  generalize k6 (sl s) = ans at *
  generalize f9 58 (sl s) = ls at *
  go_enter Tryz.func90, Tryz.ntmps90
  go_wp2_with fail
  refine CS.out.mono ?_
  rintro e w1 ⟨v, rfl, O1, G1⟩
  obtain ⟨ao, cap, rfl, C1, -⟩ := L1 O1
  have HC : Hid (CV w1 ao (ls.map str)) := C1
  clear O1 C1 CS
  go_wp2
  go_loopw [5, 6] (fun o i wr => ∃ (j : Nat) (vs : List Nat), j ≤ ls.length ∧ j ≤ 8 ∧ Hid (vs.length = j) ∧ i = .int .i64 j ∧ Hid (t7 o5 (ls.take j) = some vs) ∧ a1w wr w1.heap.size o vs ∧ w1.grownBy wr none) (fun _ i _ => ls.length - (intOf i).toNat)
  case atStart => exact ⟨0, [], Nat.zero_le _, Nat.zero_le _, rfl, rfl, rfl, World.ownsRow_nil _ _ _ _, World.grownBy.refl _ _⟩
  case round =>
   obtain ⟨j, vs, hj, hj8, HVL, rfl, HV, O, G⟩ := hrel
   have hvl8 : vs.length ≤ 8 := by have := HVL.out; omega
   by_cases hlt : j < ls.length
   ·obtain ⟨b, o, rfl, hc⟩ := HC.out.strs hlt
    have hcj := G.cell (hc j hlt) (by simp)
    have hji : (j : Int) < (ls.length : Int) := by omega
    have hlj := HEA.out ls[j] (List.getElem_mem hlt)
    have HN : Hid (∀ u, o5 ls[j] = some u → t7 o5 (ls.take (j + 1)) = some (vs ++ [u])) := fun u hu => by
     rw [List.take_succ_eq_append_getElem hlt, a3s, HV.out, hu]
     rfl
    have HX : Hid (o5 ls[j] = none → t7 o5 ls = none) := fun hu => a2d hlt hu
    clear hc HV
    have CG : Hid (∀ W : World, Calls Tryz.prog 95 #[str ls[j]] W fun e w' => e = .returned (.tuple #[.int .i64 (((o5 ls[j]).getD 0 : Nat) : Int), .bool (o5 ls[j]).isSome]) ∧ W = w') := fun W => a97 ⟨ls[j].toArray⟩ W
    generalize ls[j] = l at *
    cases hg : o5 l with
    | none =>
     have HAN : Hid (ans = none) := by
      show ans = none
      rw [HE.out]
      split
      ·rfl
      ·exact HX.out hg
     rw [hg] at CG
     go_wp2_with (go_at_call 95; refine (CG.out _).mono ?_; rintro e w' ⟨rfl, rfl⟩)
     go_ret2
     exact ⟨_, by rw [HAN.out]; rfl, by rw [HAN.out]; exact World.ownsRow_nil _ _ _ _, d5 G1 G⟩
    | some u =>
     rw [hg] at CG
     have hA := HN.out u hg
     have HA : Hid (t7 o5 (ls.take (j + 1)) = some (vs ++ [u])) := hA
     have hu := a2s hg
     clear hA HN HX hg
     by_cases h8 : j < 8
     ·have h8' : ¬ (8 : Int) ≤ (j : Int) := by omega
      go_wp2_with (first | (go_at_call 95; refine (CG.out _).mono ?_; rintro e w' ⟨rfl, rfl⟩; dsimp only [Option.getD_some, Option.isSome_some]) | (at_builtin; refine Y5 rfl (.tmp 33) (.tmp 35) 23 rfl 3 i0 (.int .i64 0) 1 8 Tryz.underlying23 hi hz0 hz1 hz2 rfl (by decide) w1.heap.size u5 vs.length (vs.map gv) rfl ?q1 (some ⟨wr.heap.size, 0, none⟩) 1 1 [gv u] rfl rfl (by simp) ?q2 (by simp [Value.oneCell', gv]) ?q3 ?q4 ?q5 ?q6))
      case q1 => exact O.alloc _
      case q2 => exact m8 wr _ _
      case q3 => unfold maxLen; omega
      case q4 => omega
      case q5 => have := G.size; simp; omega
      case q6 =>
       intro y2 w2 O2 K2
       have G2 : w1.grownBy w2 none := z6 (d5 G (World.grownBy_alloc _ _ _)) K2 (fun z hz => (O.lt z hz).1)
       have O3 : a1w w2 w1.heap.size y2 (vs ++ [u]) := by
        unfold a1w
        rw [List.length_append, List.map_append]
        exact O2
       clear O2 K2 O G
       go_wp2
       go_roundw
       case rel => exact ⟨j + 1, vs ++ [u], by omega, by omega, (by have := HVL.out; simp; omega : (vs ++ [u]).length = j + 1), by go_num, HA, O3, G2⟩
       case measure => simp [intOf]; omega
     ·have h8' : (8 : Int) ≤ (j : Int) := by omega
      have HAN : Hid (ans = none) := by
       show ans = none
       rw [HE.out, if_pos (by omega)]
      go_wp2_with (go_at_call 95; refine (CG.out _).mono ?_; rintro e w' ⟨rfl, rfl⟩; dsimp only [Option.getD_some, Option.isSome_some])
      go_ret2
      exact ⟨_, by rw [HAN.out]; rfl, by rw [HAN.out]; exact World.ownsRow_nil _ _ _ _, d5 G1 G⟩
   ·obtain rfl : j = ls.length := by omega
    have HAN : Hid (ans = some vs) := by
     show ans = some vs
     rw [HE.out, if_neg (by omega), ← HV.out, List.take_length]
    go_wp2
    go_ret2
    exact ⟨_, by rw [HAN.out]; rfl, by rw [HAN.out]; exact a2O O G1.size, d5 G1 G⟩
def a1s : Value → Nat
 | .string s => s.size
 | _ => 0
def X0 (n : Nat) (r : Option (List UInt8)) : Value := .agg ((r.getD (List.replicate n 0)).map bv).toArray
def X1 (r : Option (List UInt8)) : Int := if r.isSome = true then 0 else 60
theorem U2 {P : Program} {fn : Func} {p u : Tmp} {ty : TypeId} (h : fn.results = #[.cell p ty, .tmp u]) (tmps : Array Value) (w : World) (g : Nat) (xs : List UInt8) (n : Nat) (e : TypeId) (hp : tmps.getD p undef = .pointer (some ⟨g, 0, none⟩)) (A : AAt w g ty xs)
  (hu : P.underlying ty = some (.array n e)) (hi : (P.info? ty).map (·.size) = some xs.length) : (results fn tmps).run P w = .ok (.tuple #[.agg (xs.map bv).toArray, tmps.getD u undef]) w := by
 rw [results_cell_tmp h, hp]
 have := run_loadVar_row (P := P) w g ty ty (xs.map bv).toArray (0, 0) _ A hu rfl (by rw [A5]; exact hi)
 simp only [asAddr, Sem.run_pure, Result.andThen, this]
theorem T2 : (Tryz.prog.info? 102).map (·.size) = some 4 := by kernel_rfl
theorem E7 : (Tryz.prog.info? 52).map (·.size) = some 16 := by kernel_rfl
theorem ae3 (vs : List UInt8) (j k : Nat) (u : UInt8) (h : vs.length = j) (hk : 0 < k) : (vs ++ List.replicate k 0).set j u = (vs ++ [u]) ++ List.replicate (k - 1) 0 := by
 obtain ⟨m, rfl⟩ : ∃ m, k = m + 1 := ⟨k - 1, by omega⟩
 subst h
 rw [List.replicate_succ, List.set_append_right _ _ (Nat.le_refl _)]
 simp
theorem a57 (s : ByteArray) (w : World) (hs : s.size ≤ 1048576) :
  Calls Tryz.prog 77 #[.string s] w fun e w' => e = .returned (.tuple #[X0 4 (x1 (sl s)), .int .i64 (X1 (x1 (sl s)))]) ∧ w.grownBy w' none := by
 have hE : x1 (sl s) = if (f9 46 (sl s)).length = 4 then (t7 (k9 255) (f9 46 (sl s))).map fun ns => ns.map UInt8.ofNat else none := rfl
 have hm := a1r 46 [] (sl s)
 have hea := a5r 46 [] (sl s)
 have hl := j0 s
 have HM : Hid ((f9 46 (sl s)).length ≤ 1048577) := by
  show (E2 46 [] (sl s)).length ≤ 1048577
  omega
 have CS : Hid (∀ W : World, Calls Tryz.prog 88 #[.string s, .int .u8 46] W fun e w' => ∃ v, e = .returned v ∧ a02 w' W.heap.size v (f9 46 (sl s)) ∧ W.grownBy w' none) := fun W => a5a s 46 W hs
 have HEA : Hid (∀ l ∈ f9 46 (sl s), l.length ≤ 1048576) := fun l hl' => by have := hea l hl'; simp at this; omega
 have HE : Hid (x1 (sl s) = if (f9 46 (sl s)).length = 4 then (t7 (k9 255) (f9 46 (sl s))).map fun ns => ns.map UInt8.ofNat else none) := hE
 clear hE hm hea hl
 generalize x1 (sl s) = ans at *
 generalize f9 46 (sl s) = ls at *
 go_enter Tryz.func77, Tryz.ntmps77
 go_upto_region 2 with fail
 have A0 := AAt.alloc w 102 (List.replicate 4 0)
 have A1 := AAt.alloc (w.alloc (.cells ((List.replicate 4 (0 : UInt8)).map bv).toArray 102)) 102 (List.replicate 4 0)
 have K1 := World.grownBy_alloc (w.alloc (.cells ((List.replicate 4 (0 : UInt8)).map bv).toArray 102)) (.cells ((List.replicate 4 (0 : UInt8)).map bv).toArray 102) none
 have A2 := A0.grown K1 (by simp)
 have G0 := d5 (World.grownBy_alloc w (.cells ((List.replicate 4 (0 : UInt8)).map bv).toArray 102) none) K1
 rw [show (w.alloc (.cells ((List.replicate 4 (0 : UInt8)).map bv).toArray 102)).heap.size = w.heap.size + 1 by simp] at A1
 rw [show ((List.replicate 4 (0 : UInt8)).map bv).toArray = #[.int .u8 0, .int .u8 0, .int .u8 0, .int .u8 0] from rfl] at A1 A2 G0
 obtain ⟨R, hR, hR2⟩ : ∃ R, w.heap.size = R ∧ w.heap.size ≤ R := ⟨_, rfl, Nat.le_refl _⟩
 obtain ⟨A, hA, hA2⟩ : ∃ A, w.heap.size + 1 = A ∧ w.heap.size ≤ A := ⟨_, rfl, by omega⟩
 have hRA : R ≠ A := by omega
 rw [hA] at A1 ⊢
 rw [hR] at A2 ⊢
 clear hA hR A0 K1
 generalize (w.alloc (.cells #[.int .u8 0, .int .u8 0, .int .u8 0, .int .u8 0] 102)).alloc (.cells #[.int .u8 0, .int .u8 0, .int .u8 0, .int .u8 0] 102) = wa at *
 go_wp2_with fail
 refine (CS.out _).mono ?_
 rintro e w1 ⟨v, rfl, O1, G1⟩
 obtain ⟨ao, cap, rfl, C1, -, -, -, hao, -⟩ := L1 O1
 have HAO : Hid (∀ ad, ao = some ad → ad.block ≠ A) := fun ad had e => by
  have := (hao ad had).1
  have := A1.lt
  omega
 have HC : Hid (CV w1 ao (ls.map str)) := C1
 clear hao
 have B1 := A1.grown G1 (by simp)
 have B2 := A2.grown G1 (by simp)
 have GW := d5 G0 G1
 clear O1 C1 CS A1 A2 G0 G1 wa
 by_cases h4 : ls.length = 4
 ·have h4' : ((ls.length : Int) != 4) = false := by rw [h4]; rfl
  have HE2 : Hid (ans = (t7 (k9 255) ls).map fun ns => ns.map UInt8.ofNat) := by
   show ans = _
   rw [HE.out, if_pos h4]
  have H4 : Hid (ls.length = 4) := h4
  clear HE h4
  go_wp2
  clear h4'
  go_loopw [6] (fun i wr => ∃ (j : Nat) (ns : List Nat), j ≤ 4 ∧ Hid (ns.length = j) ∧ i = .int .i64 j ∧ Hid (t7 (k9 255) (ls.take j) = some ns) ∧ Hid (AAt wr A 102 (ns.map UInt8.ofNat ++ List.replicate (4 - j) 0)) ∧ Hid (AAt wr R 102 (List.replicate 4 0)) ∧ w1.grownBy wr (some A)) (fun i _ => 4 - (intOf i).toNat)
  case atStart => exact ⟨0, [], Nat.zero_le _, rfl, rfl, rfl, B1, B2, World.grownBy.refl _ _⟩
  case round =>
   clear B1 B2
   obtain ⟨j, ns, hj, HNL, rfl, HV, BA, BR, G⟩ := hrel
   by_cases hlt : j < 4
   ·have hlt' : (j : Int) < 4 := by omega
    have hl4 : j < ls.length := by have := H4.out; omega
    have hl4' : (j : Int) < (ls.length : Int) := by omega
    obtain ⟨b, o, rfl, hc⟩ := HC.out.strs hl4
    have hcj := G.cell (hc j hl4) (by intro e; exact HAO.out _ rfl (Option.some.inj e))
    have hlj := HEA.out ls[j] (List.getElem_mem hl4)
    have HN : Hid (∀ u, k9 255 ls[j] = some u → t7 (k9 255) (ls.take (j + 1)) = some (ns ++ [u])) := fun u hu => by
     rw [List.take_succ_eq_append_getElem hl4, a3s, HV.out, hu]
     rfl
    have HX : Hid (k9 255 ls[j] = none → t7 (k9 255) ls = none) := fun hu => a2d hl4 hu
    clear hc HV
    have CG : Hid (∀ W : World, Calls Tryz.prog 57 #[str ls[j], .int .u64 255] W fun e w' => e = .returned (.tuple #[.int .u64 (((k9 255 ls[j]).getD 0 : Nat) : Int), .bool (k9 255 ls[j]).isSome]) ∧ W = w') := fun W => a56 ⟨ls[j].toArray⟩ 255 W (by rw [← j0, J3]; omega) (by decide)
    generalize ls[j] = l at *
    cases hg : k9 255 l with
    | none =>
     have HAN : Hid (ans = none) := by
      show ans = none
      rw [HE2.out, HX.out hg]
      rfl
     rw [hg] at CG
     have BR' := BR.out
     go_wp2_with (first | (go_at_call 57; refine (CG.out _).mono ?_; rintro e w' ⟨rfl, rfl⟩) | refine wpList_store_row rfl 102 (.tmp 2) (.tmp 29) rfl R ((List.replicate 4 (0 : UInt8)).map bv).toArray rfl rfl 102 _ BR' T2 rfl (I1 _) ?_)
     refine bodyPost_ret (U2 rfl _ _ R (List.replicate 4 0) 4 5 rfl (BR'.setRow (List.replicate 4 0)) Tryz.underlying102 T2) rfl ?_
     exact ⟨by rw [HAN.out]; rfl, T9 (z6 GW G (fun x hx => by cases hx; exact hA2)) _ _ (.inr hR2)⟩
    | some u =>
     rw [hg] at CG
     have HA : Hid (t7 (k9 255) (ls.take (j + 1)) = some (ns ++ [u])) := HN.out u hg
     have hu : u ≤ 255 := a4L hg
     have hf := BA.out.free j
     have hx : wr.cell? ⟨A, j, none⟩ = some (.int .u8 ((((ns.map UInt8.ofNat ++ List.replicate (4 - j) 0) : List UInt8)[j]'(by have := HNL.out; simp; omega)).toNat : Int)) := BA.out.cell (i := j) (by have := HNL.out; simp; omega)
     generalize ((((ns.map UInt8.ofNat ++ List.replicate (4 - j) 0) : List UInt8)[j]'(by have := HNL.out; simp; omega)).toNat : Int) = old at hx
     have BA2 : Hid (AAt (wr.setCell ⟨A, j, none⟩ (.int .u8 (u : Int))) A 102 ((ns ++ [u]).map UInt8.ofNat ++ List.replicate (4 - (j + 1)) 0)) := by
      have := BA.out.set j u (by omega)
      rw [ae3 _ j (4 - j) _ (by have := HNL.out; simp; omega) (by omega)] at this
      rw [List.map_append, show 4 - (j + 1) = 4 - j - 1 by omega]
      exact this
     have BR2 : Hid (AAt (wr.setCell ⟨A, j, none⟩ (.int .u8 (u : Int))) R 102 (List.replicate 4 0)) := BR.out.setOther _ hRA
     have G2 : w1.grownBy (wr.setCell ⟨A, j, none⟩ (.int .u8 (u : Int))) (some A) := L5 G _ _ (.inl rfl)
     have hw : IntKind.u8.wrap (u : Int) = u := by rw [IntKind.wrap_u8]; omega
     clear HN HX hg BA BR G
     go_wp2_with (go_at_call 57; refine (CG.out _).mono ?_; rintro e w' ⟨rfl, rfl⟩; dsimp only [Option.getD_some, Option.isSome_some])
     go_roundw
     case rel => exact ⟨j + 1, ns ++ [u], by omega, (by have := HNL.out; simp; omega : (ns ++ [u]).length = j + 1), by go_num, HA, BA2, BR2, G2⟩
     case measure => simp [intOf]; omega
   ·obtain rfl : j = 4 := by omega
    have HAN : Hid (ans = some (ns.map UInt8.ofNat)) := by
     show ans = _
     have := HV.out
     rw [List.take_of_length_le (by have := H4.out; omega)] at this
     rw [HE2.out, this]
     rfl
    have BA' : AAt wr A 102 (ns.map UInt8.ofNat) := by
     have := BA.out
     simpa using this
    have BR' := BR.out
    have HL4 : Hid ((ns.map UInt8.ofNat).length = 4) := by
     show (ns.map UInt8.ofNat).length = 4
     rw [List.length_map]
     exact HNL.out
    have z1 : (Tryz.prog.info? 102).map (·.size) = some ((ns.map UInt8.ofNat).map bv).toArray.size := by rw [A5, HL4.out]; exact T2
    have z2 : ((List.replicate 4 (0 : UInt8)).map bv).toArray.size = ((ns.map UInt8.ofNat).map bv).toArray.size := by rw [A5, A5, HL4.out]; rfl
    have z3 : (Tryz.prog.info? 102).map (·.size) = some (ns.map UInt8.ofNat).length := by rw [HL4.out]; exact T2
    have HZ : Hid ((Tryz.prog.info? 102).map (·.size) = some (ns.map UInt8.ofNat).length) := z3
    have HZ1 : Hid ((Tryz.prog.info? 102).map (·.size) = some ((ns.map UInt8.ofNat).map bv).toArray.size ∧ ((List.replicate 4 (0 : UInt8)).map bv).toArray.size = ((ns.map UInt8.ofNat).map bv).toArray.size) := ⟨z1, z2⟩
    have GF := T9 (z6 GW G (fun x hx => by cases hx; exact hA2)) R ((ns.map UInt8.ofNat).map bv).toArray (.inr hR2)
    clear z1 z2 z3 HV HNL BA BR G GW
    generalize ns.map UInt8.ofNat = ys at *
    rw [show ((4 : Nat) : Int) = 4 from rfl]
    go_wp2_with (first | refine wpList_load_row rfl 102 (.tmp 4) rfl A rfl 102 (ys.map bv).toArray (0, 0) _ BA' Tryz.underlying102 rfl HZ1.out.1 ?_ | refine wpList_store_row rfl 102 (.tmp 2) (.tmp 34) rfl R (ys.map bv).toArray rfl rfl 102 _ BR' HZ1.out.1 HZ1.out.2 (I1 _) ?_)
    refine bodyPost_ret (U2 rfl _ _ R ys 4 5 rfl (BR'.setRow ys) Tryz.underlying102 HZ.out) rfl ?_
    exact ⟨by rw [HAN.out]; rfl, GF⟩
 ·have h4' : ((ls.length : Int) != 4) = true := by rw [bne_iff_ne]; omega
  have HAN : Hid (ans = none) := by
   show ans = none
   rw [HE.out, if_neg h4]
  have hz : ((List.replicate 4 (0 : UInt8)).map bv).toArray.size = 4 := rfl
  go_wp2_with (first | refine wpList_load_row rfl 102 (.tmp 4) rfl A rfl 102 _ (0, 0) _ B1 Tryz.underlying102 rfl T2 ?_ | refine wpList_store_row rfl 102 (.tmp 2) (.tmp 14) rfl R _ rfl rfl 102 _ B2 T2 rfl (I1 _) ?_)
  refine bodyPost_ret (U2 rfl _ _ R (List.replicate 4 0) 4 5 rfl (B2.setRow (List.replicate 4 0)) Tryz.underlying102 T2) rfl ?_
  exact ⟨by rw [HAN.out]; rfl, T9 GW _ _ (.inr hR2)⟩

end Go.Proofs.YtlfmddjppejmaaaGreatDoor
