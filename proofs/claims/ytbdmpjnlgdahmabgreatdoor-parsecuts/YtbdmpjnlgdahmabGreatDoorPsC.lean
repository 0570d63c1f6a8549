/-
  The landed reader of tokens: which sign or word stands there.
-/
import Derived.Test.YtbdmpjnlgdahmabGreatDoorLotP23
namespace Go.Proofs.YtbdmpjnlgdahmabGreatDoor
open Go.RowKit
set_option maxRecDepth 100000

set_option maxHeartbeats 1000000 in
theorem index_any (a : Option Addr) (ca : Nat) (xs : List (List UInt8)) (x : List UInt8) (w : World) (ha : CV w a (xs.map str)) (hm : xs.length ≤ 1000) :
    Calls Tryz.prog 51 #[.slice a xs.length ca, str x] w fun e w' => ∃ z : Int, e = .returned (.int .i64 z) ∧ (decide ((0 : Int) ≤ z) = decide (x ∈ xs)) ∧ ∃ n, w' = w.drewN n := by
  have HA : Hid (CV w a (xs.map str)) := ha
  clear ha
  go_enter Tryz.func51, Tryz.ntmps51
  go_wp2
  go_loopw [8] (fun i wr => ∃ k : Nat, k ≤ xs.length ∧ i = .int .i64 k ∧ Hid (∀ j, j < k → ∀ y, xs[j]? = some y → y ≠ x) ∧ ∃ n, wr = w.drewN n) (fun i _ => xs.length - (intOf i).toNat)
  case atStart => exact ⟨0, Nat.zero_le _, rfl, fun j hj => by omega, 0, rfl⟩
  case round =>
    obtain ⟨k, hk, rfl, HI, n, rfl⟩ := hrel
    by_cases hlt : k < xs.length
    · obtain ⟨b, o, rfl, hc⟩ := HA.out.addr (k := k) (by simpa using hlt)
      have hc1 := hc k (by simpa using hlt)
      rw [List.getElem_map] at hc1
      have hl : (k : Int) < (xs.length : Int) := by omega
      clear hc
      by_cases he : x = xs[k]
      · have HM : Hid (x ∈ xs) := by show x ∈ xs; rw [he]; exact List.getElem_mem hlt
        have hE : (x == xs[k]) = true := by simpa using he
        clear he
        generalize xs[k] = y at *
        go_wp2
        go_ret
        exact ⟨_, rfl, by rw [decide_eq_true HM.out]; simp, _, rfl⟩
      · have HN : Hid (∀ j, j < k + 1 → ∀ y, xs[j]? = some y → y ≠ x) := fun j hj y hy => by
          by_cases e : j = k
          · subst e
            rw [List.getElem?_eq_getElem hlt] at hy
            cases hy
            exact fun e => he e.symm
          · exact HI.out j (by omega) y hy
        have hE : (x == xs[k]) = false := by simpa using he
        clear he HI
        generalize xs[k] = y at *
        go_wp2
        go_roundw
        case rel => exact ⟨k + 1, by omega, by go_num, HN, _, by rfl⟩
        case measure => simp [intOf]; omega
    · obtain rfl : k = xs.length := by omega
      have HM : Hid (¬ x ∈ xs) := fun e => by
        obtain ⟨j, hj, e⟩ := List.getElem_of_mem e
        exact HI.out j hj _ (List.getElem?_eq_getElem hj) e
      clear HI
      go_wp2
      go_ret
      exact ⟨_, rfl, by rw [decide_eq_false HM.out]; simp, n, rfl⟩

set_option maxHeartbeats 1000000 in
theorem contains_any (a : Option Addr) (ca : Nat) (xs : List (List UInt8)) (x : List UInt8) (w : World) (ha : CV w a (xs.map str)) (hm : xs.length ≤ 1000) :
    Calls Tryz.prog 41 #[.slice a xs.length ca, str x] w fun e w' => e = .returned (.bool (decide (x ∈ xs))) ∧ ∃ n, w' = w.drewN n := by
  have C := index_any a ca xs x w ha hm
  generalize decide (x ∈ xs) = B at *
  clear ha
  go_enter Tryz.func41, Tryz.ntmps41
  go_wp2_with fail
  refine C.mono ?_
  rintro e w1 ⟨z, rfl, hz, n, rfl⟩
  clear C
  go_wp2
  go_ret
  exact ⟨rfl, n, rfl⟩

section
variable {c : PC} {w : World} {i nest bud : Nat} {vt vp : Value} {ts : List Tk} {ns : List (Nd × Nat)}

set_option maxHeartbeats 1000000 in
theorem stands_any (h : PS c w i vt vp ts nest bud ns) (a : Option Addr) (ca : Nat) (xs : List (List UInt8)) (ha : CV w a (xs.map str)) (hm : xs.length ≤ 1000) :
    Calls Tryz.prog 33 #[.pointer (some ⟨c.g, 0, none⟩), .slice a xs.length ca] w fun e w' => e = .returned (.bool (decide ((hdT ts).text ∈ xs))) ∧ w.grownBy w' none := by
  have CN := rnext_any h
  have HC : Hid (∀ W, w.grownBy W none → Calls Tryz.prog 41 #[.slice a xs.length ca, str (hdT ts).text] W fun e w' => e = .returned (.bool (decide ((hdT ts).text ∈ xs))) ∧ ∃ n, w' = W.drewN n) := fun W G => contains_any a ca xs _ W (ha.keptNone G) hm
  unfold tkC at CN
  have HF := fun k p x n W => (fld_tok k p x n W).2.2.1
  generalize hdT ts = t at *
  obtain ⟨tk, tp, tx, tn⟩ := t
  simp only at *
  generalize decide (tx ∈ xs) = B at *
  clear h ha
  go_enter Tryz.func33, Tryz.ntmps33
  go_wp2_with fail
  refine CN.mono ?_
  rintro x w1 ⟨rfl, G⟩
  clear CN
  go_wp2_with fail
  refine (HC.out w1 G).mono ?_
  rintro x w2 ⟨rfl, n, rfl⟩
  clear HC
  go_wp2
  go_ret
  exact ⟨rfl, grown_trans G (grown_drewN _ _ _)⟩

def SkipP (c : PC) (w : World) (vt vp : Value) (ts : List Tk) (nest bud : Nat) (ns : List (Nd × Nat)) : Bool → World → Prop
  | true, w' => Ret c w vt vp ts.tail nest (bud + 1) ns w'
  | false, w' => w.grownBy w' none

set_option maxHeartbeats 1000000 in
theorem skip_any (h : PS c w i vt vp ts nest bud ns) (x : List UInt8) (hx : Asked x) :
    Calls Tryz.prog 81 #[.pointer (some ⟨c.g, 0, none⟩), str x] w fun e w' => e = .returned (.bool (isB ts x)) ∧ SkipP c w vt vp ts nest bud ns (isB ts x) w' := by
  have hb := asked_is h.good.hd hx
  have G0 := World.grownBy_alloc w (.cells #[str x] 9) none
  have CS := stands_any (h.keep G0) (some ⟨w.heap.size, 0, none⟩) 1 [x] (cv_lit w _ _) (by simp)
  have hm : decide ((hdT ts).text ∈ [x]) = isB ts x := by rw [hb]; simp
  rw [hm] at CS
  have HT : Hid (∀ W, w.grownBy W none → isB ts x = true → Calls Tryz.prog 34 #[.pointer (some ⟨c.g, 0, none⟩)] W fun e w' => e = .returned (.agg (tkC (hdT ts))) ∧ Ret c w vt vp ts.tail nest (bud + 1) ns w') := fun W G hb' =>
    (take_any (h.keep G) (isB_k0 hb')).mono fun e w' ⟨he, hR⟩ => ⟨he, Ret.of (GB.non G) (fun _ _ k => k) hR⟩
  generalize (⟨x.toArray⟩ : ByteArray) = X at *
  clear h hm hb
  generalize isB ts x = B at *
  simp only [List.length_singleton] at CS
  cases B with
  | true =>
    go_enter Tryz.func81, Tryz.ntmps81
    go_wp2_with fail
    refine CS.mono ?_
    rintro e w1 ⟨rfl, G⟩
    clear CS
    go_wp2_with fail
    refine (HT.out w1 (grown_trans G0 G) (by first | trivial | rfl)).mono ?_
    rintro e w2 ⟨rfl, R⟩
    clear HT G G0
    go_wp2
    go_ret
    exact ⟨rfl, R⟩
  | false =>
    go_enter Tryz.func81, Tryz.ntmps81
    go_wp2_with fail
    refine CS.mono ?_
    rintro e w1 ⟨rfl, G⟩
    clear CS
    go_wp2
    go_ret
    exact ⟨rfl, grown_trans G0 G⟩

/-- What is read that tells nothing. -/
def MustP (c : PC) (w : World) (vt vp : Value) (nest bud : Nat) (ns : List (Nd × Nat)) (r : Except Er (List Tk)) (e : Ending) (w' : World) : Prop := match r with
  | .ok ts' => e = .returned (.tuple #[]) ∧ Ret c w vt vp ts' nest bud ns w'
  | .error er => e = .panicked (PanS er) ∧ GB w w' (foot c.g vt vp)

set_option maxHeartbeats 1000000 in
theorem must_any (h : PS c w i vt vp ts nest bud ns) (x : List UInt8) (hx : Asked x) :
    Calls Tryz.prog 77 #[.pointer (some ⟨c.g, 0, none⟩), str x] w (MustP c w vt vp nest (bud + 1) ns (mustV x ts)) := by
  have CS := skip_any h x hx
  have HS : Hid (∀ W, w.grownBy W none → Calls Tryz.prog 19 #[.pointer (some ⟨c.g, 0, none⟩)] W fun e w' => e = .panicked (PanS (stuckE ts)) ∧ W.grownBy w' none) := fun W G => stuck_any (h.keep G)
  unfold mustV
  generalize (⟨x.toArray⟩ : ByteArray) = X at *
  cases hb : isB ts x with
  | true =>
    rw [if_pos rfl]
    rw [hb] at CS
    clear h HS hb
    go_enter Tryz.func77, Tryz.ntmps77
    go_wp2_with fail
    refine CS.mono ?_
    rintro e w1 ⟨rfl, R⟩
    clear CS
    go_wp2
    go_end0
    exact ⟨rfl, R⟩
  | false =>
    rw [if_neg (by simp), fail_stuck]
    rw [hb] at CS
    clear h hb
    go_enter Tryz.func77, Tryz.ntmps77
    go_wp2_with fail
    refine CS.mono ?_
    rintro e w1 ⟨rfl, hG⟩
    have G : w.grownBy w1 none := hG
    clear CS hG
    go_wp2_with fail
    refine (HS.out w1 G).mono ?_
    rintro e w2 ⟨rfl, G2⟩
    clear HS
    go_wp2
    exact ⟨rfl, rfl, GB.non (grown_trans G G2)⟩

set_option maxHeartbeats 1000000 in
theorem rnumber_any (h : PS c w i vt vp ts nest bud ns) :
    Calls Tryz.prog 75 #[.pointer (some ⟨c.g, 0, none⟩)] w (TellP c w vt vp nest (bud + 1) ns (fun n : Nat => .int .u32 (n : Int)) (numT ts)) := by
  have CN := rnext_any h
  have HS : Hid (∀ W, w.grownBy W none → Calls Tryz.prog 19 #[.pointer (some ⟨c.g, 0, none⟩)] W fun e w' => e = .panicked (PanS (stuckE ts)) ∧ W.grownBy w' none) := fun W G => stuck_any (h.keep G)
  have HT : Hid (∀ W, w.grownBy W none → (hdT ts).kind ≠ 0 → Calls Tryz.prog 34 #[.pointer (some ⟨c.g, 0, none⟩)] W fun e w' => e = .returned (.agg (tkC (hdT ts))) ∧ Ret c w vt vp ts.tail nest (bud + 1) ns w') := fun W G hk =>
    (take_any (h.keep G) hk).mono fun e w' ⟨he, hR⟩ => ⟨he, Ret.of (GB.non G) (fun _ _ k => k) hR⟩
  unfold numT
  rw [fail_stuck]
  generalize stuckE ts = er at *
  unfold tkC at CN HT
  have HF := fun k p x n W => (fld_tok k p x n W).1
  have HF3 := fun k p x n W => (fld_tok k p x n W).2.2.2
  generalize hdT ts = t at *
  obtain ⟨tk, tp, tx, tn⟩ := t
  simp only at *
  clear h
  by_cases hk : tk = 1
  · rw [if_pos hk]
    have hk' : ((tk : Int) != 1) = false := by rw [hk]; rfl
    have hk0 : tk ≠ 0 := by omega
    clear hk HS
    go_enter Tryz.func75, Tryz.ntmps75
    go_wp2_with fail
    refine CN.mono ?_
    rintro e w1 ⟨rfl, G⟩
    clear CN
    go_wp2_with fail
    refine (HT.out w1 G hk0).mono ?_
    rintro e w2 ⟨rfl, R⟩
    clear HT G
    go_wp2
    go_ret
    exact ⟨rfl, R⟩
  · rw [if_neg hk]
    have hk' : ((tk : Int) != 1) = true := by rw [bne_iff_ne]; omega
    clear hk HT
    go_enter Tryz.func75, Tryz.ntmps75
    go_wp2_with fail
    refine CN.mono ?_
    rintro e w1 ⟨rfl, G⟩
    clear CN
    go_wp2_with fail
    refine (HS.out w1 G).mono ?_
    rintro e w2 ⟨rfl, G2⟩
    clear HS
    go_wp2
    exact ⟨rfl, rfl, GB.non (grown_trans G G2)⟩

set_option maxHeartbeats 1000000 in
/-- Nothing is left. -/
theorem end_any (h : PS c w i vt vp ts nest bud ns) :
    Calls Tryz.prog 10 #[.pointer (some ⟨c.g, 0, none⟩)] w fun e w' => w.grownBy w' none ∧ (((hdT ts).kind = 0 ∧ e = .returned (.tuple #[])) ∨ ((hdT ts).kind ≠ 0 ∧ e = .panicked (PanS (stuckE ts)))) := by
  have CN := rnext_any h
  have HS : Hid (∀ W, w.grownBy W none → Calls Tryz.prog 19 #[.pointer (some ⟨c.g, 0, none⟩)] W fun e w' => e = .panicked (PanS (stuckE ts)) ∧ W.grownBy w' none) := fun W G => stuck_any (h.keep G)
  generalize stuckE ts = er at *
  unfold tkC at CN
  have HF := fun k p x n W => (fld_tok k p x n W).1
  generalize hdT ts = t at *
  obtain ⟨tk, tp, tx, tn⟩ := t
  simp only at *
  clear h
  by_cases hk : tk = 0
  · have hk' : ((tk : Int) != 0) = false := by rw [hk]; rfl
    have HK : Hid (tk = 0) := hk
    clear hk HS
    go_enter Tryz.func10, Tryz.ntmps10
    go_wp2_with fail
    refine CN.mono ?_
    rintro e w1 ⟨rfl, G⟩
    clear CN
    go_wp2
    go_end0
    exact ⟨G, .inl ⟨HK.out, rfl⟩⟩
  · have hk' : ((tk : Int) != 0) = true := by rw [bne_iff_ne]; omega
    have HK : Hid (tk ≠ 0) := hk
    clear hk
    go_enter Tryz.func10, Tryz.ntmps10
    go_wp2_with fail
    refine CN.mono ?_
    rintro e w1 ⟨rfl, G⟩
    clear CN
    go_wp2_with fail
    refine (HS.out w1 G).mono ?_
    rintro e w2 ⟨rfl, G2⟩
    clear HS
    go_wp2
    exact ⟨rfl, grown_trans G G2, .inr ⟨HK.out, rfl⟩⟩

end
end Go.Proofs.YtbdmpjnlgdahmabGreatDoor
