/-
  Put, the document's and the program's: the bytes with a number laid over some of them, in new memory.
-/
import Derived.Test.YtaglcfcgfofhkaaJoin
namespace Go.Proofs.Ytaglcfcgfofhkaa
open Go.RowKit

/-- v, k bytes to the right. -/
def shr8 (v k : Nat) : Nat := v / 256 ^ k

theorem shr8_zero (v : Nat) : shr8 v 0 = v := by simp [shr8]
theorem shr8_succ (v k : Nat) : shr8 v (k + 1) = shr8 v k / 256 := by
  unfold shr8
  rw [Nat.div_div_eq_div_mul, Nat.pow_succ]
theorem shr8_le (v k : Nat) : shr8 v k ≤ v := Nat.div_le_self _ _

/-- v's lowest k bytes, laid from the place p + S - 1 downwards. -/
def putTo (xs : List UInt8) (p S : Nat) (v : Nat) : Nat → List UInt8
  | 0 => xs
  | k + 1 => (putTo xs p S v k).set (p + S - 1 - k) (UInt8.ofNat (shr8 v k))

theorem putTo_len (xs : List UInt8) (p S v k : Nat) : (putTo xs p S v k).length = xs.length := by
  induction k with
  | zero => rfl
  | succ k ih => simp [putTo, ih]

/-- What Put says. -/
def putV (xs : List UInt8) (p s : Int) (v : Nat) : List UInt8 := if okB xs.length p s = true then putTo xs p.toNat s.toNat v s.toNat else []

theorem owns_stored {w : World} {base g cap : Nat} {xs : List UInt8} (h : w.ownsRow base 5 1 (.slice (some ⟨g, 0, none⟩) xs.length cap) xs.length (xs.map bv)) (i : Nat) (c : Nat) :
    (w.setCell ⟨g, i, none⟩ (.int .u8 ((c : Int) % 256))).ownsRow base 5 1 (.slice (some ⟨g, 0, none⟩) xs.length cap) xs.length ((xs.set i (UInt8.ofNat c)).map bv) := by
  have := (h.stored i (.int .u8 ((c : Int) % 256))).1
  rw [List.map_set]
  have e : bv (UInt8.ofNat c) = .int .u8 ((c : Int) % 256) := by simp [bv]
  rw [e]
  exact this

/-- The copy while it is written. -/
def PutRel (w : World) (g cap : Nat) (xs : List UInt8) (p S v k : Nat) (wr : World) : Prop :=
  wr.ownsRow w.heap.size 5 1 (.slice (some ⟨g, 0, none⟩) xs.length cap) xs.length ((putTo xs p S v k).map bv) ∧ w.grownBy wr none

theorem PutRel.store {w wr : World} {g cap : Nat} {xs : List UInt8} {p S v k : Nat} (h : PutRel w g cap xs p S v k wr) : PutRel w g cap xs p S v (k + 1) (wr.setCell ⟨g, p + S - 1 - k, none⟩ (.int .u8 (((shr8 v k : Nat) : Int) % 256))) := by
  obtain ⟨ho, hg⟩ := h
  refine ⟨?_, grown_setCell hg _ _ (.inr (ho.lt g rfl).1)⟩
  have hl := putTo_len xs p S v k
  have h' : wr.ownsRow w.heap.size 5 1 (.slice (some ⟨g, 0, none⟩) (putTo xs p S v k).length cap) (putTo xs p S v k).length ((putTo xs p S v k).map bv) := by rw [hl]; exact ho
  have := owns_stored h' (p + S - 1 - k) (shr8 v k)
  rw [hl] at this
  exact this

theorem PutRel.cell {w wr : World} {g cap : Nat} {xs : List UInt8} {p S v k : Nat} (h : PutRel w g cap xs p S v k wr) {i : Nat} (hi : i < xs.length) : ∃ u, wr.cell? ⟨g, i, none⟩ = some u := by
  have := h.1.cellAt i (by omega)
  have hl := putTo_len xs p S v k
  refine ⟨bv ((putTo xs p S v k)[i]'(by omega)), ?_⟩
  rw [this]
  simp [hl, hi]

theorem PutRel.free {w wr : World} {g cap : Nat} {xs : List UInt8} {p S v k : Nat} (h : PutRel w g cap xs p S v k wr) (i : Nat) : wr.frozen? ⟨g, i, none⟩ = false := h.1.frozenAt i

theorem owns_mono {w : World} {base base' e size n : Nat} {v : Value} {vs : List Value} (h : w.ownsRow base e size v n vs) (hb : base' ≤ base) : w.ownsRow base' e size v n vs := by
  refine ⟨h.1, ?_⟩
  rcases h.2 with h | ⟨g, cap, cur, hv, hg, r⟩
  · exact .inl h
  · exact .inr ⟨g, cap, cur, hv, Nat.le_trans hb hg, r⟩

/-- What a call that makes bytes, or none, leaves. -/
def MadeB (w w' : World) (e : Ending) (xs : List UInt8) (ok : Bool) : Prop := ∃ v, e = .returned (.tuple #[v, .bool ok]) ∧ Owns w' w.heap.size v xs ∧ w.grownBy w' none

set_option maxHeartbeats 1000000 in
theorem put_any (a : Option Addr) (ca : Nat) (xs : List UInt8) (p s : Int) (v : Nat) (w : World) (ha : Cells w a xs) (hc0 : a = none → ca = 0) (hn : xs.length ≤ 140737488355328) (hv : v ≤ 4294967295) :
    Calls Try.prog 16 #[.slice a xs.length ca, .int .i64 p, .int .i64 s, .int .u32 v] w fun e w' => MadeB w w' e (putV xs p s v) (okB xs.length p s) := by
  cases hok : okB xs.length p s with
  | false =>
    have hg : putV xs p s v = [] := by simp [putV, hok]
    rw [hg]
    clear hg
    go_enter Try.func16, Try.ntmps16
    go_wp2_with (go_at_call 28; refine (holds_any a ca xs.length p s _ hn).mono ?_; rintro e w' ⟨rfl, rfl⟩)
    go_ret2
    exact ⟨_, rfl, World.ownsRow_nil _ _ _ _, World.grownBy.refl _ _⟩
  | true =>
    have hy := okB_yes hok
    obtain ⟨P, rfl⟩ := Int.eq_ofNat_of_zero_le hy.2.1
    obtain ⟨S, rfl⟩ : ∃ S : Nat, s = S := ⟨s.toNat, by omega⟩
    have hS1 : 1 ≤ S := by omega
    have hS : S ≤ 4 := by omega
    have hP : P + S ≤ xs.length := by omega
    clear hy
    have hg : putV xs P S v = putTo xs P S v S := by simp [putV, hok]
    rw [hg]
    clear hg
    have H : Hid (Cells w a xs) := ha
    clear ha
    go_enter Try.func16, Try.ntmps16
    go_wp2_with (go_at_call 28; refine (holds_any a ca xs.length P S _ hn).mono ?_; rintro e w' ⟨rfl, rfl⟩)
    have G0 : w.grownBy (w.alloc (.cells #[.slice a xs.length ca] 22)) none := World.grownBy_alloc _ _ _
    have hs0 : (w.alloc (.cells #[.slice a xs.length ca] 22)).heap.size = w.heap.size + 1 := by simp
    refine (join_any (some ⟨w.heap.size, 0, none⟩) 1 [⟨a, ca, xs⟩] _ ?_ ?_ (by simp) (by simpa [joinS] using hn)).mono ?_
    · exact cv_lit w 22 [.slice a xs.length ca]
    · intro q hq
      simp only [List.mem_singleton] at hq
      subst hq
      exact ⟨H.out.keptNone G0, hc0⟩
    rintro e w1 ⟨v1, rfl, h1, h2⟩
    have G1 : w.grownBy w1 none := grown_trans G0 h2
    rw [hs0] at h1
    have h1' : Owns w1 w.heap.size v1 xs := owns_mono (by simpa [joinS] using h1) (by omega)
    obtain ⟨g, cap, hv1, hc1, hc2, hg1, hg2⟩ := h1'.headL (by omega)
    subst hv1
    have R : PutRel w g cap xs P S v 0 w1 := ⟨h1', G1⟩
    clear h1 h1' h2 G1 G0 hs0 H
    unfold maxLen at hc2
    go_wp2
    go_loopw [3, 21] (fun x i wr => ∃ k : Nat, k ≤ S ∧ i = .int .i64 k ∧ x = .int .u32 ((shr8 v k : Nat) : Int) ∧ PutRel w g cap xs P S v k wr) (fun _ i _ => S - (intOf i).toNat)
    case atStart => exact ⟨0, Nat.zero_le _, rfl, by rw [shr8_zero], R⟩
    case round =>
      clear R
      obtain ⟨k, hk, rfl, rfl, R⟩ := hrel
      by_cases hlt : k < S
      · obtain ⟨u, hu⟩ := R.cell (i := P + S - 1 - k) (by omega)
        have hf := R.free (P + S - 1 - k)
        have R' := R.store
        have hq : shr8 v k ≤ 4294967295 := Nat.le_trans (shr8_le v k) hv
        have HQ : Hid (shr8 v (k + 1) = shr8 v k / 256) := shr8_succ v k
        clear R
        go_wp2
        go_roundw
        case rel => exact ⟨k + 1, by omega, by go_num, by rw [HQ.out]; go_num, R'⟩
        case measure => simp [intOf]; omega
      · obtain rfl : k = S := by omega
        go_wp2
        go_ret2
        refine ⟨_, rfl, ?_, R.2⟩
        unfold Owns
        rw [putTo_len]
        exact R.1

set_option maxHeartbeats 1000000 in
theorem refput_any (a : Option Addr) (ca : Nat) (xs : List UInt8) (p s : Int) (v : Nat) (w : World) (ha : Cells w a xs) (hc0 : a = none → ca = 0) (hn : xs.length ≤ 140737488355328) (hv : v ≤ 4294967295) :
    Calls Try.prog 15 #[.slice a xs.length ca, .int .i64 p, .int .i64 s, .int .u32 v] w fun e w' => MadeB w w' e (putV xs p s v) (okB xs.length p s) := by
  obtain ⟨i0, hi, hz0, hz1, hz2⟩ := info_parts info5
  have H : Hid (Cells w a xs) := ha
  clear ha
  by_cases h : s = 1 ∨ s = 2 ∨ s = 4
  case neg =>
    have hok : okB xs.length p s = false := (okB_no (by omega)).symm
    have h1 : (s != 1) = true := by rw [bne_iff_ne]; omega
    have h2 : (s != 2) = true := by rw [bne_iff_ne]; omega
    have h3 : (s != 4) = true := by rw [bne_iff_ne]; omega
    have hg : putV xs p s v = [] := by simp [putV, hok]
    rw [hok, hg]
    clear hok hg
    go_enter Try.func15, Try.ntmps15
    go_wp2
    go_ret2
    exact ⟨_, rfl, World.ownsRow_nil _ _ _ _, World.grownBy.refl _ _⟩
  case pos =>
    obtain ⟨S, rfl⟩ : ∃ S : Nat, s = S := ⟨s.toNat, by omega⟩
    have key := three_tests h
    have HS : Hid ((S : Int) = 1 ∨ (S : Int) = 2 ∨ (S : Int) = 4) := h
    clear h
    cases hok : okB xs.length p S with
    | false =>
      have hg : putV xs p S v = [] := by simp [putV, hok]
      rw [hg]
      clear hg
      rcases key with h1 | ⟨h1, h2⟩ | ⟨h1, h2, h3⟩
      all_goals
        go_enter Try.func15, Try.ntmps15
        go_wp2_with (go_at_call 29; refine (in_any xs.length p _ _ hn HS.out).mono ?_; rintro e w' ⟨rfl, rfl⟩)
        go_ret2
        exact ⟨_, rfl, World.ownsRow_nil _ _ _ _, World.grownBy.refl _ _⟩
    | true =>
      have hy := okB_yes hok
      obtain ⟨P, rfl⟩ := Int.eq_ofNat_of_zero_le hy.2.1
      have hP : P + S ≤ xs.length := by omega
      have hS1 : 1 ≤ S := by omega
      have hS : S ≤ 4 := by omega
      clear hy
      have hg : putV xs P S v = putTo xs P S v S := by simp [putV, hok]
      rw [hg]
      clear hg
      rcases key with h1 | ⟨h1, h2⟩ | ⟨h1, h2, h3⟩
      all_goals
        go_enter Try.func15, Try.ntmps15
        go_wp2_with (first | (go_at_call 29; refine (in_any xs.length P _ _ hn HS.out).mono ?_; rintro e w' ⟨rfl, rfl⟩) | (at_builtin; refine wpList_append_rd rfl (.tmp 30) (.tmp 31) 22 rfl i0 Try.underlying22 hi hz0 hz1 hz2 w.heap.size _ [] rfl ?q1 a ca xs rfl hc0 ?q2 ?q3 ?q4 ?q5))
        case q1 => exact owns_made w _ (Nat.le_refl _)
        case q2 => exact H.out.keptNone (World.grownBy_alloc _ _ _)
        case q3 => simpa using hn
        case q4 => simp
        case q5 =>
          intro v' w1 k1 k2
          have G1 : w.grownBy w1 none := grown_trans_new (World.grownBy_alloc w _ _) k2 (by intro x hx; simp [Value.ownBlock] at hx; omega)
          obtain ⟨g, cap, hv1, hc1, hc2, hg1, hg2⟩ := Owns.headL (xs := xs) k1 (by omega)
          subst hv1
          have R : PutRel w g cap xs P S v 0 w1 := ⟨k1, G1⟩
          clear k1 k2 G1
          unfold maxLen at hc2
          go_wp2
          go_loopw [3, 11] (fun x i wr => ∃ k : Nat, k ≤ S ∧ i = .int .i64 ((S : Int) - 1 - k) ∧ x = .int .u32 ((shr8 v k : Nat) : Int) ∧ PutRel w g cap xs P S v k wr) (fun _ i _ => (intOf i + 1).toNat)
          case atStart => exact ⟨0, Nat.zero_le _, by go_num, by rw [shr8_zero], R⟩
          case round =>
            clear R
            obtain ⟨k, hk, rfl, rfl, R⟩ := hrel
            by_cases hlt : k < S
            · obtain ⟨j, hj⟩ : ∃ j : Nat, (S : Int) - 1 - k = j := ⟨S - 1 - k, by omega⟩
              have hjk : P + S - 1 - k = P + j := by omega
              obtain ⟨u, hu⟩ := R.cell (i := P + S - 1 - k) (by omega)
              have hf := R.free (P + S - 1 - k)
              have R' := R.store
              rw [hjk] at hu hf R'
              have hq : shr8 v k ≤ 4294967295 := Nat.le_trans (shr8_le v k) hv
              have HQ : Hid (shr8 v (k + 1) = shr8 v k / 256) := shr8_succ v k
              have HJ : Hid ((S : Int) - 1 - k = j) := hj
              have hjl : P + j < xs.length := by omega
              clear R hjk
              rw [hj]
              clear hj
              go_wp2
              go_roundw
              case rel => exact ⟨k + 1, by omega, by have := HJ.out; go_num, by rw [HQ.out]; go_num, R'⟩
              case measure => simp [intOf]
            · obtain rfl : k = S := by omega
              go_wp2
              go_ret2
              refine ⟨_, rfl, ?_, R.2⟩
              unfold Owns
              rw [putTo_len]
              exact R.1

/-- SpoilBytes of what the call itself has made. -/
theorem spoil_own {base : Nat} {v : Value} {xs : List UInt8} (w : World) (h : Owns w base v xs) (hm : xs.length + 1 ≤ 140737488355328) :
    Calls Try.prog 18 #[v] w fun e w' => e = .returned (.tuple #[]) ∧ w.grownBy w' v.ownBlock := by
  by_cases hv : v = .slice none 0 0
  · subst hv
    exact spoil_nil w
  · obtain ⟨g, cap, rfl, hc, hcm, _⟩ := h.head hv
    exact spoil_any g xs.length cap w (Blk.ofRow h).1 hc hcm hm

/-- Bytes that lie below what is written. -/
theorem Cells.keptUp {w w' : World} {row : Option Nat} {ao : Option Addr} {xs : List UInt8} (h : Cells w ao xs) (B : Nat) (hu : ∀ ad, ao = some ad → ad.block < B) (hg : w.grownBy w' row) (hr : ∀ k, row = some k → B ≤ k) : Cells w' ao xs :=
  h.kept hg fun ad had _ e => by have := hu ad had; have := hr ad.block e.symm; omega

/-- Bytes that lie above what is written. -/
theorem Cells.keptDown {w w' : World} {row : Option Nat} {ao : Option Addr} {xs : List UInt8} (h : Cells w ao xs) (B : Nat) (hu : ∀ ad, ao = some ad → B ≤ ad.block) (hg : w.grownBy w' row) (hr : ∀ k, row = some k → k < B) : Cells w' ao xs :=
  h.kept hg fun ad had _ e => by have := hu ad had; have := hr ad.block e.symm; omega

theorem putV_len (xs : List UInt8) (p s : Int) (v : Nat) : (putV xs p s v).length ≤ xs.length := by
  unfold putV
  split
  · rw [putTo_len]; exact Nat.le_refl _
  · simp

end Go.Proofs.Ytaglcfcgfofhkaa
