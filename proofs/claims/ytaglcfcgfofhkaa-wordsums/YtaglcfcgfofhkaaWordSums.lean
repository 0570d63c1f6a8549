/-
  For every list of numbers of 32 bits and every number (the list's capacity at most 2^47 - 4096 bytes, as the form itself says of each argument) riddlelaw1.WordSums returns true and leaves what was there as it was: no condition of ours.
-/
import Derived.Test.YtaglcfcgfofhkaaOpen
import Derived.Test.YtaglcfcgfofhkaaWSpoil
import Derived.Test.YtaglcfcgfofhkaaLow
import Derived.Deep.RegionHeld3
namespace Go.Proofs.Ytaglcfcgfofhkaa
open Go.ChangeShapes Go.WideShapes Go.ChangeAt Go.RowKit
open Go.ChangeMaps (open_string shut_string)
namespace wordSums

theorem wcells {w : World} {ao : Option Addr} {xs : List UInt32} (h : CV w ao (xs.map wv)) : Wd.Cells w ao xs := by
  refine ⟨fun e => by simpa using h.1 e, fun ad had i hi => ?_⟩
  rw [h.2 ad had i (by simpa using hi)]
  simp [wv, Wd.bv]

theorem cvw {w : World} {ao : Option Addr} {xs : List UInt32} (h : Wd.Cells w ao xs) : CV w ao (xs.map wv) := by
  refine ⟨fun e => by rw [h.1 e]; rfl, fun ad had i hi => ?_⟩
  simp only [List.length_map] at hi
  rw [h.2 ad had i hi]
  simp [wv, Wd.bv]

/-- The sum of the first k, stopped. -/
def cut (xs : List UInt32) (k : Nat) : Nat := min (tot (xs.take k)) 4294967295

theorem cut_le (xs : List UInt32) (k : Nat) : cut xs k ≤ 4294967295 := by unfold cut; omega
theorem cut_all (xs : List UInt32) : cut xs xs.length = sumS xs := by simp [cut, sumS]
theorem cut_step (xs : List UInt32) (k : Nat) (hk : k < xs.length) : cut xs (k + 1) = min (cut xs k + xs[k].toNat) 4294967295 := by
  have := tot_take_succ xs k hk
  unfold cut
  omega

theorem cut_val (A x c : Nat) (h : c = min (A + x) 4294967295) : Value.int IntKind.u64 (if (4294967295 : Int) < (A : Int) + (x : Int) then 4294967295 else (A : Int) + (x : Int)) = Value.int IntKind.u64 (c : Int) := by
  congr 1
  split <;> omega

theorem tot_reverse (xs : List UInt32) : tot xs.reverse = tot xs := by
  induction xs with
  | nil => rfl
  | cons x xs ih => rw [List.reverse_cons, tot_append, ih, tot_cons, tot_cons, tot_nil]; omega

theorem sum_reverse (xs : List UInt32) : sumS xs.reverse = sumS xs := by unfold sumS; rw [tot_reverse]

theorem sum_parts (xs : List UInt32) (k : Nat) : min (sumS (xs.take k) + sumS (xs.drop k)) 4294967295 = sumS xs := by
  have h := tot_append (xs.take k) (xs.drop k)
  rw [List.take_append_drop] at h
  unfold sumS
  omega

/-- The list from its end, k of them. -/
def backTo (xs : List UInt32) (k : Nat) : List UInt32 := (xs.drop (xs.length - k)).reverse

theorem backTo_len (xs : List UInt32) (k : Nat) (hk : k ≤ xs.length) : (backTo xs k).length = k := by simp [backTo]; omega
theorem backTo_zero (xs : List UInt32) : backTo xs 0 = [] := by simp [backTo]
theorem backTo_all (xs : List UInt32) : backTo xs xs.length = xs.reverse := by simp [backTo]
theorem backTo_step (xs : List UInt32) (k : Nat) (hk : k < xs.length) : backTo xs (k + 1) = backTo xs k ++ [xs[xs.length - 1 - k]] := by
  unfold backTo
  have e : xs.length - (k + 1) = xs.length - 1 - k := by omega
  rw [e, List.drop_eq_getElem_cons (by omega), show xs.length - 1 - k + 1 = xs.length - k by omega, List.reverse_cons]

theorem low_rem (L n : Nat) : (L : Int) % ((n : Int) + 1) = ((L % (n + 1) : Nat) : Int) := by
  rw [show ((n : Int) + 1) = ((n + 1 : Nat) : Int) by omega]
  exact (Int.natCast_emod L (n + 1)).symm

theorem two_words (a b : Nat) (ha : a ≤ 4294967295) (hb : b ≤ 4294967295) : [Value.int .u32 (a : Int), .int .u32 (b : Int)] = [UInt32.ofNat a, UInt32.ofNat b].map wv := by
  simp [wv]
  omega

theorem sum_two (a b : Nat) (ha : a ≤ 4294967295) (hb : b ≤ 4294967295) : sumS [UInt32.ofNat a, UInt32.ofNat b] = min (a + b) 4294967295 := by
  simp [sumS, tot]
  omega

theorem sumS_le (xs : List UInt32) : sumS xs ≤ 4294967295 := by unfold sumS; omega

theorem CV.ofHeap {w w' : World} {ao : Option Addr} {vs : List Value} (h : CV w ao vs) (e : w'.heap = w.heap) : CV w' ao vs :=
  h.same fun ad _ _ _ => by rw [e]

theorem CV.front {w : World} {ao : Option Addr} {xs : List UInt32} (h : CV w ao (xs.map wv)) (q : Nat) : CV w ao ((xs.take q).map wv) := by
  refine ⟨fun e => ?_, fun ad had i hi => ?_⟩
  · have := h.1 e
    simp only [List.map_eq_nil_iff] at this
    rw [this]
    simp
  · simp only [List.length_map, List.length_take] at hi
    rw [h.2 ad had i (by simp; omega)]
    simp

theorem CV.back {w : World} {b o : Nat} {xs : List UInt32} (h : CV w (some ⟨b, o, none⟩) (xs.map wv)) (q : Nat) : CV w (some ⟨b, o + q, none⟩) ((xs.drop q).map wv) := by
  refine ⟨fun e => (by cases e), fun ad had i hi => ?_⟩
  simp only [List.length_map, List.length_drop] at hi
  obtain rfl := Option.some.inj had
  have := h.2 _ rfl (q + i) (by simp; omega)
  rw [Addr.add_lit] at this ⊢
  rw [Nat.add_assoc, this]
  simp

set_option maxHeartbeats 1000000 in
theorem walk (a : Option Addr) (ca : Nat) (xs : List UInt32) (p : Int) (w : World) (ha : CV w a (xs.map wv)) (ha0 : a = none → ca = 0) (hca : xs.length ≤ ca) (_hcam : ca ≤ maxLen) (hx : xs.length * 4 ≤ 140737488351232) :
    Calls Try.prog 7 #[.slice a xs.length ca, .int .i64 p] w fun e w' => e = .returned (.bool true) ∧ w.grownBy w' none := by
  obtain ⟨i0, hi, hz0, hz1, hz2⟩ := info_parts info24
  have HA : Hid (CV w a (xs.map wv)) := ha
  clear ha
  go_enter Try.func7, Try.ntmps7
  go_wp2
  go_loop [5, 6] (fun t i => ∃ k : Nat, k ≤ xs.length ∧ i = .int .i64 k ∧ t = .int .u64 (cut xs k)) (fun _ i => xs.length - (intOf i).toNat)
  case atStart => exact ⟨0, Nat.zero_le _, rfl, rfl⟩
  case round =>
    obtain ⟨k, hk, rfl, rfl⟩ := hrel
    by_cases hlt : k < xs.length
    · obtain ⟨b, o, rfl, h1⟩ := HA.out.words hlt
      have c1 := h1 k hlt
      have hxk := xs[k].toNat_lt
      have hc := cut_le xs k
      have HS : Hid (cut xs (k + 1) = min (cut xs k + xs[k].toNat) 4294967295) := cut_step xs k hlt
      clear h1
      go_wp2
      go_round
      case rel => exact ⟨k + 1, by omega, by go_num, cut_val _ _ _ HS.out⟩
      case measure => simp [intOf]; omega
    · obtain rfl : k = xs.length := by omega
      have hC := cut_all xs
      rw [hC]
      clear hC
      have hsm : sumS xs ≤ 4294967295 := by unfold sumS; omega
      go_wp2_with fail
      refine (Wd.lend_any a ca xs _ (wcells HA.out) ha0 (by omega)).mono ?_
      rintro e w1 ⟨l1, rfl, ⟨g1, p1, rfl, -, -, b1, t1, own1⟩, G1⟩
      go_wp2_with fail
      refine (sum_any _ p1 xs _ (cvw (Wd.cells_front own1).1) (by omega)).mono ?_
      rintro e w' ⟨rfl, rfl⟩
      go_wp2_with fail
      refine (Wd.kept_any g1 p1 a ca xs _ (owns_mono own1 (Nat.zero_le _)) (wcells (HA.out.keptNone G1)) (by omega)).mono ?_
      rintro e w2 ⟨rfl, K2⟩
      have G2 : w.grownBy w2 none := grown_trans_new G1 K2 (by intro k hk; obtain rfl := Option.some.inj hk; omega)
      clear own1 K2 G1
      go_wp2
      go_loopw [9, 10] (fun v i wr => ∃ k : Nat, k ≤ xs.length ∧ i = .int .i64 ((xs.length : Int) - 1 - k) ∧ Wd.Owns wr w.heap.size v (backTo xs k) ∧ w.grownBy wr none) (fun _ i _ => (intOf i + 1).toNat)
      case atStart => exact ⟨0, Nat.zero_le _, by go_num, by rw [backTo_zero]; exact World.ownsRow_nil _ _ _ _, G2⟩
      case round =>
        clear G2
        obtain ⟨k, hk, rfl, O, G⟩ := hrel
        by_cases hlt : k < xs.length
        · obtain ⟨j, hj⟩ : ∃ j : Nat, (xs.length : Int) - 1 - k = j := ⟨xs.length - 1 - k, by omega⟩
          have hjl : j < xs.length := by omega
          have hjk : xs.length - 1 - k = j := by omega
          obtain ⟨b, o, rfl, h1⟩ := HA.out.words hjl
          have c0 := h1 j hjl
          have c1 : wr.cell? ⟨b, o + j, none⟩ = some (.int .u32 (xs[j].toNat : Int)) := G.cell c0 (by simp)
          have HB : Hid (backTo xs (k + 1) = backTo xs k ++ [xs[j]]) := by
            show backTo xs (k + 1) = _
            rw [backTo_step xs k hlt]
            congr 2
            simp only [hjk]
          have HJ : Hid ((xs.length : Int) - 1 - k = j) := hj
          have HL : Hid ((backTo xs k).length = k) := backTo_len xs k hk
          generalize xs[j] = t at *
          clear h1 c0 hjk
          rw [hj]
          clear hj
          go_wp2_with (at_builtin; refine Wd.wpList_append_rd rfl (.tmp 47) (.tmp 52) 37 rfl i0 Try.underlying37 hi hz0 hz1 hz2 w.heap.size u9 (backTo xs k) rfl ?q1 (some ⟨wr.heap.size, 0, none⟩) 1 [t] rfl (by simp) ?q2 ?q3 ?q4 ?q5)
          case q1 => exact O.alloc _
          case q2 => exact Wd.cells_lit wr [t]
          case q3 => rw [HL.out]; simp; omega
          case q4 => have := G.size; simp; omega
          case q5 =>
            intro v' w' k1 k2
            have G' : w.grownBy w' none := grown_trans_new G (grown_trans (World.grownBy_alloc wr _ _) k2) (fun x hx => (O.lt x hx).1)
            rw [← HB.out] at k1
            clear k2 G O
            go_wp2
            go_roundw
            case rel => exact ⟨k + 1, by omega, by have := HJ.out; go_num, k1, G'⟩
            case measure => simp [intOf]
        · obtain rfl : k = xs.length := by omega
          rw [backTo_all] at O
          go_wp2_with fail
          refine (low_any p _).mono ?_
          rintro e w' ⟨rfl, rfl⟩
          have hlow := lowV_lt p
          generalize lowV p = L at *
          obtain ⟨q, hq, hql⟩ : ∃ q : Nat, (L : Int) % ((xs.length : Int) + 1) = q ∧ q ≤ xs.length := ⟨L % (xs.length + 1), low_rem L xs.length, Nat.lt_succ_iff.1 (Nat.mod_lt _ (Nat.succ_pos _))⟩
          have HQ : Hid ((L : Int) % ((xs.length : Int) + 1) = q) := hq
          clear hq
          go_wp2
          rw [HQ.out]
          obtain ⟨ab, cb, hv9, C9, -⟩ := CV.ofRow O
          rw [List.length_reverse] at hv9
          subst hv9
          have CA := HA.out.keptNone G
          have S1 : Hid (∀ W : World, W.heap = wr.heap → Calls Try.prog 21 #[.slice ab xs.length cb] W fun e w' => e = .returned (.int .u32 (sumS xs)) ∧ W = w') := fun W hW => by
            have := sum_len ab xs.length cb xs.reverse (by simp) W (CV.ofHeap C9 hW) (by simp; omega)
            rw [sum_reverse] at this
            exact this
          have S2 : Hid (∀ W : World, W.heap = wr.heap → Calls Try.prog 21 #[.slice a q ca] W fun e w' => e = .returned (.int .u32 (sumS (xs.take q))) ∧ W = w') := fun W hW =>
            sum_len a q ca (xs.take q) (by simp; omega) W (CV.ofHeap (CV.front CA q) hW) (by simp; omega)
          have G0 := G.size
          by_cases hn0 : 0 < xs.length
          · obtain ⟨b, o, rfl, -⟩ := HA.out.words hn0
            have S3 : Hid (∀ W : World, W.heap = wr.heap → Calls Try.prog 21 #[.slice (some ⟨b, o + q, none⟩) (xs.length - q) (ca - q)] W fun e w' => e = .returned (.int .u32 (sumS (xs.drop q))) ∧ W = w') := fun W hW =>
              sum_len _ _ _ (xs.drop q) (by simp) W (CV.ofHeap (CV.back CA q) hW) (by simp; omega)
            clear C9 O CA
            have S4 : Hid (∀ W : World, W.heap = (wr.alloc (.cells #[.int .u32 (sumS (xs.take q) : Int), .int .u32 (sumS (xs.drop q) : Int)] 24)).heap → Calls Try.prog 21 #[.slice (some ⟨wr.heap.size, 0, none⟩) 2 2] W fun e w' => e = .returned (.int .u32 (sumS xs)) ∧ W = w') := fun W hW => by
              have h1 := sumS_le (xs.take q)
              have h2 := sumS_le (xs.drop q)
              have c := cv_lit wr 24 [.int .u32 (sumS (xs.take q) : Int), .int .u32 (sumS (xs.drop q) : Int)]
              rw [two_words _ _ h1 h2] at c
              have k := sum_len (some ⟨wr.heap.size, 0, none⟩) 2 2 [UInt32.ofNat (sumS (xs.take q)), UInt32.ofNat (sumS (xs.drop q))] rfl W (CV.ofHeap c (by rw [hW, ← two_words _ _ h1 h2])) (by simp)
              rw [sum_two _ _ h1 h2, sum_parts] at k
              exact k
            have S5 : Hid (∀ W : World, Calls Try.prog 21 #[.slice none 0 0] W fun e w' => e = .returned (.int .u32 0) ∧ W = w') := fun W =>
              sum_len none 0 0 [] rfl W ⟨fun _ => rfl, fun ad had => (by cases had)⟩ (by simp)
            have S6a : q = xs.length → Hid (∀ W : World, Calls Try.prog 21 #[.slice (some ⟨b, o, none⟩) 0 0] W fun e w' => e = .returned (.int .u32 (sumS (xs.drop q))) ∧ W = w')   := fun e W => by
              have k := sum_len (some ⟨b, o, none⟩) 0 0 [] rfl W ⟨fun _ => rfl, fun ad had i hi => (by simp at hi)⟩ (by simp)
              rw [e, List.drop_length]
              exact k
            have hqi : (q : Int) ≤ (xs.length : Int) := by omega
            have hqc : (q : Int) ≤ (ca : Int) := by omega
            generalize sumS (xs.take q) = m1 at *
            generalize sumS (xs.drop q) = m2 at *
            clear hi hz0 hz1 hz2 i0 hsm hlow HQ HA b1 t1 hx _hcam hk hlt ha0
            by_cases hcq : ca = q
            · obtain rfl : q = xs.length := by omega
              subst hcq
              have S6 : Hid (∀ W : World, Calls Try.prog 21 #[.slice (some ⟨b, o, none⟩) 0 0] W fun e w' => e = .returned (.int .u32 m2) ∧ W = w') := S6a rfl
              clear S3 S6a
              go_region_held3 (fun _ => True) (trivial) (first | (go_at_call_of 21 (Value.slice ab xs.length cb); refine (S1.out _ ?_).mono ?_; exact rfl; rintro e w' ⟨rfl, rfl⟩) | (go_at_call_of 21 (Value.slice (some ⟨b, o, none⟩) xs.length xs.length); refine (S2.out _ ?_).mono ?_; exact rfl; rintro e w' ⟨rfl, rfl⟩) | (go_at_call_of 21 (Value.slice (some ⟨b, o, none⟩) 0 0); refine (S6.out _).mono ?_; rintro e w' ⟨rfl, rfl⟩) | (go_at_call_of 21 (Value.slice (some ⟨wr.heap.size, 0, none⟩) 2 2); refine (S4.out _ ?_).mono ?_; exact rfl; rintro e w' ⟨rfl, rfl⟩) | (go_at_call_of 21 (Value.slice none 0 0); refine (S5.out _).mono ?_; rintro e w' ⟨rfl, rfl⟩) | (go_at_call 14; refine (awake_any _).mono ?_; rintro e w' ⟨rfl, K⟩))
              go_wp2
              go_ret
              exact ⟨rfl, grown_trans G (grown_trans (grown_alloc_drew wr _ _) K)⟩
            · clear S6a
              go_region_held3 (fun _ => True) (trivial) (first | (go_at_call_of 21 (Value.slice ab xs.length cb); refine (S1.out _ ?_).mono ?_; exact rfl; rintro e w' ⟨rfl, rfl⟩) | (go_at_call_of 21 (Value.slice (some ⟨b, o, none⟩) q ca); refine (S2.out _ ?_).mono ?_; exact rfl; rintro e w' ⟨rfl, rfl⟩) | (go_at_call_of 21 (Value.slice (some ⟨b, o + q, none⟩) (xs.length - q) (ca - q)); refine (S3.out _ ?_).mono ?_; exact rfl; rintro e w' ⟨rfl, rfl⟩) | (go_at_call_of 21 (Value.slice (some ⟨wr.heap.size, 0, none⟩) 2 2); refine (S4.out _ ?_).mono ?_; exact rfl; rintro e w' ⟨rfl, rfl⟩) | (go_at_call_of 21 (Value.slice none 0 0); refine (S5.out _).mono ?_; rintro e w' ⟨rfl, rfl⟩) | (go_at_call 14; refine (awake_any _).mono ?_; rintro e w' ⟨rfl, K⟩))
              go_wp2
              go_ret
              exact ⟨rfl, grown_trans G (grown_trans (grown_alloc_drew wr _ _) K)⟩
          · have hxs : xs = [] := List.eq_nil_of_length_eq_zero (by omega)
            have hq0 : q = 0 := by omega
            subst hq0
            have hl0 : xs.length = 0 := by omega
            have hs0 : sumS xs = 0 := by rw [hxs]; rfl
            rw [hl0, hs0]
            have S0 : Hid (∀ (a' : Option Addr) (c' : Nat) (W : World), Calls Try.prog 21 #[.slice a' 0 c'] W fun e w' => e = .returned (.int .u32 0) ∧ W = w') := fun a' c' W =>
              sum_len a' 0 c' [] rfl W ⟨fun _ => rfl, fun ad had i hi => (by simp at hi)⟩ (by simp)
            have S4 : Hid (∀ W : World, W.heap = (wr.alloc (.cells #[.int .u32 0, .int .u32 0] 24)).heap → Calls Try.prog 21 #[.slice (some ⟨wr.heap.size, 0, none⟩) 2 2] W fun e w' => e = .returned (.int .u32 0) ∧ W = w') := fun W hW =>
              sum_len (some ⟨wr.heap.size, 0, none⟩) 2 2 [0, 0] rfl W (CV.ofHeap (cv_lit wr 24 [.int .u32 0, .int .u32 0]) hW) (by simp)
            clear hi hz0 hz1 hz2 i0 hsm hlow HQ HA b1 t1 hx _hcam hk hlt ha0 S1 S2 CA C9 O hn0 hql hxs hs0 hl0 hca
            by_cases hcq : ca = 0
            · subst hcq
              go_region_held3 (fun _ => True) (trivial) (first | (go_at_call_of 21 (Value.slice (some ⟨wr.heap.size, 0, none⟩) 2 2); refine (S4.out _ ?_).mono ?_; exact rfl; rintro e w' ⟨rfl, rfl⟩) | (go_at_call 21; refine (S0.out _ _ _).mono ?_; rintro e w' ⟨rfl, rfl⟩) | (go_at_call 14; refine (awake_any _).mono ?_; rintro e w' ⟨rfl, K⟩))
              go_wp2
              go_ret
              exact ⟨rfl, grown_trans G (grown_trans (grown_alloc_drew wr _ _) K)⟩
            · have hc0 : (0 : Int) ≤ (ca : Int) := by omega
              go_region_held3 (fun _ => True) (trivial) (first | (go_at_call_of 21 (Value.slice (some ⟨wr.heap.size, 0, none⟩) 2 2); refine (S4.out _ ?_).mono ?_; exact rfl; rintro e w' ⟨rfl, rfl⟩) | (go_at_call 21; refine (S0.out _ _ _).mono ?_; rintro e w' ⟨rfl, rfl⟩) | (go_at_call 14; refine (awake_any _).mono ?_; rintro e w' ⟨rfl, K⟩))
              go_wp2
              go_ret
              exact ⟨rfl, grown_trans G (grown_trans (grown_alloc_drew wr _ _) K)⟩

set_option maxRecDepth 100000 in
theorem lifted (os : Os) (started : os.Started) (H : Type) (enc : TypeId × Value → H) :
    ReturnsInHanded {} Try.checked os 7 .any (Rows.wordSumsSpec.pre6 enc Try.prog Try.f7 Rows.wordSumsRow.domain false) (Rows.wordSumsSpec.post enc Try.prog Try.f7 false true false false) := by
  refine returnsInHanded_of_change_sized (C := Try.checked) own started (by kernel_rfl) Try.func7
    (ChangeSpec.witness6 (enc := enc) (C := Try.checked) false ⟨#[], #[.slice none 0 0, .int .i64 0], []⟩ 8 (by kernel_rfl) (by kernel_rfl) (by kernel_rfl) (by kernel_rfl)) ?_
  intro W base args ds gs before hval0 hW hcnd hsz0 _
  have hsz : (DataW.weightsEach Try.prog (Try.f7.params.toList ++ Rows.wordSumsSpec.plain.varTypes Try.prog) (ds ++ gs)).all (· ≤ reachBytes) = true := hsz0
  have hval : ∀ (j : Nat) t v, Try.f7.params[j]? = some t → args[j]? = some v → Value.okWide Try.prog W .any base t v := hval0
  have hW' := hW
  obtain ⟨p, q, hA0, hV, rfl, hfz, hnd⟩ := hW
  have hA : DataW.TrodAll enc Try.prog W 0 (fun _ => true) true Try.f7.params.toList args.toList ds p := hA0
  rw [Try.params7] at hA hval hsz
  obtain ⟨v0, vs0, d0, ds0, p0, q0, hargs, rfl, rfl, h0, r0⟩ := trodAll_cons hA
  obtain ⟨v1, vs1, d1, ds1, p1, q1, rfl, rfl, rfl, h1, r1⟩ := trodAll_cons r0
  obtain ⟨rfl, rfl, rfl⟩ := trodAll_nil r1
  obtain rfl : args = #[v0, v1] := by cases args; simp_all
  obtain ⟨rfl, rfl⟩ := trodVars_none hV
  obtain ⟨a0, len0, cap0, rfl⟩ := okWide_slice Try.underlying37 (hval 0 37 v0 rfl rfl)
  have k0 := h0
  have lt0 : ∀ x ∈ p0, x.block < W.heap.size := by obtain ⟨m, hm⟩ := k0; exact DataW.trod_lt m _ _ _ hm
  obtain ⟨xs0, rfl, hcells0, hnil0, hcp0, hdat0⟩ := open_words Try.underlying37 Try.underlying24 (by kernel_rfl) h0
  obtain ⟨x1, rfl, rfl, rfl, w1⟩ := open_int Try.underlying3 (hval 1 3 v1 rfl rfl) h1
  have hlen0 : xs0.length * 4 ≤ 140737488351232 := by
    rcases hdat0 with ⟨_, rfl⟩ | ⟨elems, spare, rfl, hle⟩
    · simp
    · have := sized_slice hsz (j := 0) (t := 37) (e := 24) rfl rfl Try.underlying37
      rw [bytes24] at this
      unfold reachBytes at this
      omega
  clear hA0 hval0
  refine (walk a0 cap0 xs0 x1 W hcells0 hnil0 hcp0.1 hcp0.2 (by omega)).mono fun e W' ⟨he, hg⟩ => ?_
  subst he
  have bel : Below W.heap.size W W' := (Below.refl _ _).grown hg (Nat.le_refl _) (by simp)
  exact ⟨_, rfl, _, _, _, [], _, [], hW', trodAll_mk1 (shut_bool Try.underlying4 _), (trodAll_cons_mk (Below.trod laidOut (by kernel_rfl) (of_decide_eq_true (by kernel_rfl)) k0 bel lt0) (trodAll_cons_mk (shut_int Try.underlying3 w1) trodAll_mk0)), rfl, bel.frame _, fun h => by cases h⟩

theorem over : Rows.WordSumsSaid :=
  OpenClaim.holds_of_wide 7 Try.f7 rfl rfl rfl rfl rfl rfl rfl ⟨rfl, rfl, rfl, rfl, rfl⟩ rfl rfl rfl rfl rfl (by kernel_rfl) Try.func7 (by kernel_rfl)
    (of_decide_eq_true (by kernel_rfl)) (by unfold Func.isWrapper; first | (rw [if_pos (by decide +kernel)]; kernel_rfl) | (rw [if_neg (by decide +kernel)]; exact ⟨rfl, rfl⟩))
    (fun os started H enc _ => lifted os started H enc)

end wordSums

theorem wordSums_holds : Rows.WordSumsSaid := wordSums.over
#print axioms wordSums_holds
end Go.Proofs.Ytaglcfcgfofhkaa
