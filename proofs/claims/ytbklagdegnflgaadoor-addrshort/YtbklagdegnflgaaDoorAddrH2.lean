/-
  Package addr: the iterator over an address's groups.
-/
import Derived.Test.YtbklagdegnflgaaDoorAddrH
namespace Go.Proofs.YtbklagdegnflgaaDoor
open Go.RowKit Go.Shelf
set_option maxRecDepth 100000

attribute [local go_sem] Oper.semAt_some

abbrev encQ (p : Nat × Nat) : Array Value := #[.int .i64 (p.1 : Int), .int .u32 (p.2 : Int)]

theorem pairs_half : ∀ xs : List UInt8, (pairsG xs).length = xs.length / 2
  | [] => rfl
  | [_] => by simp [pairsG]
  | h :: l :: r => by
    rw [pairsG, List.length_cons, pairs_half r]
    simp only [List.length_cons]
    omega
theorem pairs_atG : ∀ (xs : List UInt8) (j : Nat) (h : j < (pairsG xs).length), numAt xs (2 * j) 2 = (pairsG xs)[j]
  | [], j, h => by simp [pairsG] at h
  | [_], j, h => by simp [pairsG] at h
  | a :: b :: r, 0, h => by simp [pairsG, numAt]; omega
  | a :: b :: r, j + 1, h => by
    have ih := pairs_atG r j (by simpa [pairsG] using h)
    simp only [pairsG, List.getElem_cons_succ]
    rw [← ih]
    simp only [numAt, show 2 * (j + 1) + 0 = 2 * j + 0 + 1 + 1 by omega, show 2 * (j + 1) + 1 = 2 * j + 1 + 1 + 1 by omega, List.getD_cons_succ]
    rfl

theorem get_pair (xs : List UInt8) (j : Nat) (h : j < (pairsG xs).length) : getV xs (2 * (j : Int)) 2 = ((pairsG xs)[j] : Int) := by
  have hl := pairs_half xs
  rw [getV, if_pos (by simp [okB]; omega), show (2 * (j : Int)).toNat = 2 * j by omega]
  exact congrArg _ (pairs_atG xs j h)

set_option maxHeartbeats 1000000 in
theorem pairs_any (ao : Option Addr) (n ca : Nat) (w : World) :
    Calls Tryd.prog 52 #[.slice ao n ca] w fun e w' => e = .returned (.func (.func 62) #[] #[.pointer (some ⟨w.heap.size, 0, none⟩)]) ∧ w' = w.alloc (.cells #[.slice ao n ca] 34) := by
  go_enter Tryd.func52, Tryd.ntmps52
  go_wp2
  go_ret
  exact ⟨rfl, rfl⟩

theorem Kp.cells {n : Nat} {S : Nat → Prop} {W W' : World} (K : Kp n S W W') {ao : Option Addr} {xs : List UInt8} (hs : ∀ ad, ao = some ad → xs ≠ [] → ad.block < n ∨ S ad.block) (h : Cells W ao xs) : Cells W' ao xs :=
  ⟨h.1, fun ad had i hi => K.cell (a := ad.add i) (by rw [show (ad.add i).block = ad.block by unfold Addr.add; split <;> rfl]; exact hs ad had (fun e => by subst e; simp at hi)) (h.2 ad had i hi)⟩

set_option maxRecDepth 100000 in
set_option maxHeartbeats 2000000 in
theorem pairs1_in (n : Nat) (hn : 1 ≤ n) (l Bb n₀ : Nat) (S : Nat → Prop) (ao : Option Addr) (ca : Nat) (xs : List UInt8) (hs : xs.length ≤ 1048576) (hS : S Bb ∨ Bb < n₀) (hA : ∀ ad, ao = some ad → xs ≠ [] → ad.block < n₀ ∨ S ad.block) (J Jx : List (Nat × Nat) → World → Prop)
    (hY : ∀ pre x W, J pre W → pre.length < (pairsG xs).length → YieldAt Fence.wide (n - 1) Tryd.prog l (encQ x) W fun e W' =>
      (e = .returned (.bool true) ∧ J (pre ++ [x]) W' ∧ Kp n₀ S W W') ∨ (e = .returned (.bool false) ∧ Jx (pre ++ [x]) W'))
    (W : World) (hBb : W.cell? ⟨Bb, 0, none⟩ = some (.slice ao xs.length ca)) (hc : Cells W ao xs) (h0 : J [] W) :
    CallsIn Fence.wide n Tryd.prog 62 #[.func (.yield l) #[] #[], .pointer (some ⟨Bb, 0, none⟩)] W fun e W' => (∃ v, e = .returned v) ∧
      ((∃ ys, ys = numF 0 (pairsG xs) ∧ J ys W') ∨ (∃ pre, pre <+: numF 0 (pairsG xs) ∧ Jx pre W')) := by
  have HH : Hid ((pairsG xs).length = xs.length / 2) := pairs_half xs
  have HC : Hid (Cells W ao xs) := hc
  clear hc
  have hq : (xs.length : Int) / 2 = (((pairsG xs).length : Nat) : Int) := by have := HH.out; omega
  refine callsIn_of_wp Tryd.func62 rfl trivial ?_ rfl
  simp only [Tryd.ntmps62, List.size_toArray, List.length_cons, List.length_nil, Nat.reduceAdd, Nat.reduceSub, Array.replicate_succ, Array.replicate_zero, List.push_toArray, List.append_toArray, List.nil_append, List.cons_append]
  gi_wp2
  gi_loopw [9] (fun i wr => ∃ k : Nat, k ≤ (pairsG xs).length ∧ i = .int .i64 k ∧ J (numF 0 ((pairsG xs).take k)) wr ∧ Hid (Cells wr ao xs) ∧ wr.cell? ⟨Bb, 0, none⟩ = some (.slice ao xs.length ca)) (fun i _ => (pairsG xs).length - (intOf i).toNat)
  case atStart => exact ⟨0, Nat.zero_le _, rfl, h0, HC, hBb⟩
  case round =>
    clear h0 hBb HC
    obtain ⟨k, hk, rfl, hJs, HCr, hb⟩ := hrel
    by_cases hlt : k < (pairsG xs).length
    · have hki : (k : Int) < (((pairsG xs).length : Nat) : Int) := by omega
      have CG := get_any ao ca xs (2 * (k : Int)) 2 wr HCr.out (by omega)
      rw [get_pair xs k hlt] at CG
      generalize okB xs.length (2 * (k : Int)) 2 = ok at *
      have HT : Hid (numF 0 ((pairsG xs).take k) ++ [(k, (pairsG xs)[k])] = numF 0 ((pairsG xs).take (k + 1))) := by
        show _ = _
        rw [List.take_succ_eq_append_getElem hlt, numF_append, List.length_take, Nat.min_eq_left hk, Nat.zero_add]
        rfl
      have HP : Hid (numF 0 ((pairsG xs).take (k + 1)) <+: numF 0 (pairsG xs)) := by
        refine ⟨numF (0 + ((pairsG xs).take (k + 1)).length) ((pairsG xs).drop (k + 1)), ?_⟩
        rw [← numF_append, List.take_append_drop]
      obtain ⟨fn, tmps, assign, body, hy, hR⟩ := hY _ (k, (pairsG xs)[k]) wr hJs (by rw [numF_len, List.length_take]; omega)
      rw [HT.out] at hR
      dsimp only [encQ] at hy
      generalize (pairsG xs)[k] = g at *
      clear HT
      gi_wp2_with (refine ⟨trivial, ?_⟩; gi_at_call 60; refine (callsIn_wide.2 CG).mono ?_; rintro e w1 ⟨rfl, rfl⟩)
      refine hR.mono ?_
      clear CG hy hR
      rintro e W3 (⟨rfl, hJ3, hk3⟩ | ⟨rfl, hJx3⟩)
      · have hb3 := hk3.cell (a := ⟨Bb, 0, none⟩) (hS.elim .inr .inl) hb
        have HC3 : Hid (Cells W3 ao xs) := hk3.cells hA HCr.out
        clear hb HCr hJs
        gi_wp2
        go_roundw
        case rel => exact ⟨k + 1, by omega, by simp, hJ3, HC3, hb3⟩
        case measure => simp [intOf]; omega
      · gi_wp2
        refine bodyPost_ret (results_none rfl _ _ _) rfl ?_
        exact ⟨⟨_, rfl⟩, .inr ⟨_, HP.out, hJx3⟩⟩
    · obtain rfl : k = (pairsG xs).length := by omega
      rw [List.take_length] at hJs
      gi_wp2
      go_end0
      exact ⟨⟨_, rfl⟩, .inl ⟨_, rfl, hJs⟩⟩

/-- The iterator over groups. -/
theorem pairs_stops (n : Nat) (hn : 1 ≤ n) (Bb n₀ : Nat) (S : Nat → Prop) (ao : Option Addr) (ca : Nat) (xs : List UInt8) (hs : xs.length ≤ 1048576) (hS : S Bb ∨ Bb < n₀) (hA : ∀ ad, ao = some ad → xs ≠ [] → ad.block < n₀ ∨ S ad.block) (w : World) (hBb : w.cell? ⟨Bb, 0, none⟩ = some (.slice ao xs.length ca)) (hc : Cells w ao xs) :
    SeqStopsK Fence.wide n Tryd.prog 62 #[.pointer (some ⟨Bb, 0, none⟩)] encQ (Kp n₀ S) (fun ys => ys = numF 0 (pairsG xs)) (fun pre => pre <+: numF 0 (pairsG xs)) (pairsG xs).length w := fun l J Jx W hW _ _ hY h0 => by
  have lt : ∀ {a : Addr} {v : Value}, w.cell? a = some v → a.block < w.heap.size := fun {a v} h => by
    by_cases hb : a.block < w.heap.size
    · exact hb
    · unfold World.cell? at h
      rw [Array.getElem?_eq_none (by omega)] at h
      simp at h
  refine pairs1_in n hn l Bb n₀ S ao ca xs hs hS hA J Jx hY W ((hW.cell (p := ⟨Bb, 0, none⟩) (lt hBb)).trans hBb) ?_ h0
  exact ⟨hc.1, fun ad had i hi => by
    have h := hc.2 ad had i hi
    exact (hW.cell (p := ad.add i) (lt h)).trans h⟩

end Go.Proofs.YtbklagdegnflgaaDoor
