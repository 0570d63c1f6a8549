/-
  Bytes behind the packet: what turns nothing; and the question whether a program asks for the length.
-/
import Derived.Test.YtaldhnionkacmabVmT
import Derived.Test.YtaldhnionkacmabICopy
namespace Go.Proofs.Ytaldhnionkacmab
open Go.RowKit
set_option maxRecDepth 100000

def asksLenB (x : In) : Bool := (x.code.toNat : Int) == 128 || (x.code.toNat : Int) == 129
def asksL (xs : List In) : Bool := xs.any asksLenB

theorem numAt_more (pk more : List UInt8) (p S : Nat) (h : p + S ≤ pk.length) : numAt (pk ++ more) p S = numAt pk p S := by
  induction S with
  | zero => rfl
  | succ S ih =>
    rw [numAt, numAt, ih (by omega)]
    have e : (pk ++ more).getD (p + S) 0 = pk.getD (p + S) 0 := by
      rw [List.getD_eq_getElem?_getD, List.getD_eq_getElem?_getD, List.getElem?_append_left (by omega)]
    rw [e]

theorem read_more (pk more : List UInt8) (p S : Nat) (h : (readAtV pk p S).2 = 0) : readAtV (pk ++ more) p S = readAtV pk p S := by
  cases hok : okB pk.length p S with
  | false =>
    rw [readAtV, hok] at h
    simp at h
  | true =>
    have hy := okB_yes hok
    have hok2 : okB (pk ++ more).length p S = true := by
      rw [List.length_append]
      exact decide_eq_true ⟨hy.1, hy.2.1, by omega⟩
    rw [readAtV, readAtV, hok, hok2, if_pos rfl, if_pos rfl, numAt_more pk more p S (by omega)]

theorem step_more {c : Int} {k : Nat} {pk more : List UInt8} {M : Mc} (h1 : (c == 128) = false) (h2 : (c == 129) = false) (h : (stepV c k pk M).2 = 0) : stepV c k (pk ++ more) M = stepV c k pk M := by
  by_cases a : (c == 32 || c == 40 || c == 48) = true
  · have n0 : (c == 0) = false := by
      rw [beq_eq_false_iff_ne]; rintro rfl; revert a; decide
    have e : ∀ q, stepV c k q M = (⟨(readAtV q k (sizeV c)).1, M.x, M.m⟩, (readAtV q k (sizeV c)).2) := fun q => by
      rw [stepV, n0, if_neg (by simp), if_pos a]
    rw [e] at h
    rw [e, e, read_more pk more k (sizeV c) h]
  · by_cases b : (c == 64 || c == 72 || c == 80) = true
    · have n0 : (c == 0) = false := by
        rw [beq_eq_false_iff_ne]; rintro rfl; revert b; decide
      have e : ∀ q, stepV c k q M = (⟨(readAtV q (k + M.x) (sizeV c)).1, M.x, M.m⟩, (readAtV q (k + M.x) (sizeV c)).2) := fun q => by
        rw [stepV, n0, if_neg (by simp), if_neg a, if_pos b]
      rw [e] at h
      rw [e, e, read_more pk more (k + M.x) (sizeV c) h]
    · by_cases d : c = 177
      · subst d
        have e : ∀ q, stepV 177 k q M = (⟨M.a, 4 * ((readAtV q k 1).1 % 16), M.m⟩, (readAtV q k 1).2) := fun q => by simp [stepV]
        rw [e] at h
        rw [e, e, read_more pk more k 1 h]
      · have d' : (c == 177) = false := by rw [beq_eq_false_iff_ne]; exact d
        unfold stepV
        rw [if_neg a, if_neg a, if_neg b, if_neg b, h1, h2, d']
        rfl

theorem runF_more {xs : List In} {pk more : List UInt8} (ha : asksL xs = false) : ∀ (n j : Nat) (M : Mc), (runF xs pk n j M).2.1 = 0 → runF xs (pk ++ more) n j M = runF xs pk n j M := by
  intro n
  induction n with
  | zero => intro j M _; rfl
  | succ n ih =>
    intro j M h
    have hx : asksLenB (xs.getD j zIn) = false := by
      by_cases hj : j < xs.length
      · rw [getD_at hj]
        cases hq : asksLenB xs[j] with
        | false => rfl
        | true =>
          have : asksL xs = true := List.any_eq_true.2 ⟨xs[j], List.getElem_mem hj, hq⟩
          rw [ha] at this
          cases this
      · rw [List.getD_eq_getElem?_getD, List.getElem?_eq_none (by omega)]
        decide
    simp only [asksLenB, Bool.or_eq_false_iff] at hx
    rw [runF] at h
    rw [runF, runF]
    generalize xs.getD j zIn = x at *
    by_cases c1 : ((x.code.toNat : Int) == 6) = true
    · rw [if_pos c1, if_pos c1]
    rw [if_neg c1] at h
    rw [if_neg c1, if_neg c1]
    by_cases c2 : ((x.code.toNat : Int) == 22) = true
    · rw [if_pos c2, if_pos c2]
    rw [if_neg c2] at h
    rw [if_neg c2, if_neg c2]
    by_cases c3 : ((x.code.toNat : Int) == 5) = true
    · rw [if_pos c3] at h
      rw [if_pos c3, if_pos c3, ih _ _ h]
    rw [if_neg c3] at h
    rw [if_neg c3, if_neg c3]
    by_cases c4 : jumpB x.code.toNat = true
    · rw [if_pos c4] at h
      rw [if_pos c4, if_pos c4, ih _ _ h]
    rw [if_neg c4] at h
    rw [if_neg c4, if_neg c4]
    by_cases c5 : (stepV x.code.toNat x.k.toNat pk M).2 = 0
    · rw [if_pos c5] at h
      rw [step_more hx.1 hx.2 c5, if_pos c5, if_pos c5, ih _ _ h]
    · rw [if_neg c5] at h
      exact absurd h c5

/-- P5.3: bytes behind the packet turn nothing. -/
theorem runV_more {xs : List In} {pk more : List UInt8} (ha : asksL xs = false) (hE : runE xs pk = 0) (hf : (runV xs pk).2.1 = 0) (hl : pk.length + more.length ≤ 65536) : runE xs (pk ++ more) = 0 ∧ runV xs (pk ++ more) = runV xs pk := by
  obtain ⟨h0, -⟩ := runE_zero hE
  have hE2 : runE xs (pk ++ more) = 0 := by rw [runE, if_pos h0, if_neg (by rw [List.length_append]; omega)]
  refine ⟨hE2, ?_⟩
  rw [runV, if_pos hE] at hf
  rw [runV, if_pos hE2, runV, if_pos hE, runF_more ha _ _ _ hf]

set_option maxHeartbeats 1000000 in
theorem asks_any (a : Option Addr) (ca : Nat) (xs : List In) (w : World) (ha : CV w a (flat xs)) (hm : xs.length ≤ 140737488355328) :
    Calls Try.prog 9 #[.slice a xs.length ca] w fun e w' => e = .returned (.bool (asksL xs)) ∧ w = w' := by
  have H : Hid (CV w a (flat xs)) := ha
  clear ha
  obtain ⟨ans, hans⟩ : ∃ b, asksL xs = b := ⟨_, rfl⟩
  rw [hans]
  have HA : Hid (asksL xs = ans) := hans
  clear hans
  go_enter Try.func9, Try.ntmps9
  go_wp2
  go_loop [3] (fun i => ∃ j : Nat, j ≤ xs.length ∧ i = .int .i64 j ∧ asksL (xs.drop j) = ans) (fun i => xs.length - (intOf i).toNat)
  case atStart => exact ⟨0, Nat.zero_le _, rfl, HA.out⟩
  case round =>
    obtain ⟨j, hj, rfl, hi⟩ := hrel
    by_cases hlt : j < xs.length
    · obtain ⟨b, o, rfl, hc⟩ := H.out.insns hlt
      obtain ⟨c0, -, -, -⟩ := hc j hlt
      have HX : Hid (ans = (asksLenB xs[j] || asksL (xs.drop (j + 1)))) := by
        show ans = _
        rw [← hi, List.drop_eq_getElem_cons hlt]
        rfl
      clear hc hi HA
      have hl : (j : Int) < (xs.length : Int) := by omega
      generalize xs[j] = x at *
      cases h1 : ((x.code.toNat : Int) == 128) with
      | true =>
        have HY : Hid (ans = true) := by show ans = true; rw [HX.out, asksLenB, h1]; rfl
        clear HX
        go_wp2
        go_ret
        exact ⟨by rw [HY.out]; rfl, rfl⟩
      | false =>
        cases h2 : ((x.code.toNat : Int) == 129) with
        | true =>
          have HY : Hid (ans = true) := by show ans = true; rw [HX.out, asksLenB, h1, h2]; rfl
          clear HX
          go_wp2
          go_ret
          exact ⟨by rw [HY.out]; rfl, rfl⟩
        | false =>
          have HY : Hid (asksL (xs.drop (j + 1)) = ans) := by show _ = ans; rw [HX.out, asksLenB, h1, h2]; rfl
          clear HX
          go_wp2
          go_round
          case rel => exact ⟨j + 1, by omega, by go_num, HY.out⟩
          case measure => simp [intOf]; omega
    · obtain rfl : j = xs.length := by omega
      have HY : Hid (ans = false) := by show ans = false; rw [← hi, List.drop_length]; rfl
      clear hi HA
      go_wp2
      go_ret
      exact ⟨by rw [HY.out]; rfl, rfl⟩

end Go.Proofs.Ytaldhnionkacmab
