/-
  Package queue as landed: Put, Take, Lens, Dropped.
-/
import Derived.Test.YtlfjpbedjmnpaaaQuE
import Derived.Test.YtlfjpbedjmnpaaaWSpoil
namespace Go.Proofs.Ytlfjpbedjmnpaaa
open Go.RowKit
set_option maxRecDepth 100000

def Lq.abs (q : Lq) : List Qc := q.cs.map Cq.abs

/-- What Put leaves. -/
def PutL (w : World) (base : Nat) (q : Lq) (cl : Int) (b : List UInt8) (e : Ending) (w' : World) : Prop :=
  e = .returned (.tuple #[.bool (putB q.abs cl b), .int .i64 (putE q.abs cl b)]) ∧ ∃ q' : Lq, LqAt w' base q' ∧ q'.g = q.g ∧ q'.abs = putP q.abs cl b ∧ GW w w' q.foot ∧ Foots w q.foot q'.foot

theorem PutL.no {w : World} {base : Nat} {q : Lq} {cl n : Int} {b : List UInt8} (h : LqAt w base q) (he : putE q.abs cl b = n) (hn : n ≠ 0) : PutL w base q cl b (.returned (.tuple #[.bool false, .int .i64 n])) w := by
  refine ⟨?_, q, h, rfl, ?_, GW.refl _ _, Foots.refl _ _⟩
  · unfold putB
    rw [he, if_neg hn]
  · unfold putP
    rw [he, if_neg hn]

theorem abs_get {cs : List Cq} {k : Nat} {c : Cq} (h : cs[k]? = some c) : (cs.map Cq.abs).getD k qc0 = c.abs := by
  rw [List.getD_eq_getElem?_getD, List.getElem?_map, h]
  rfl

set_option maxHeartbeats 2000000 in
theorem lqput_any (base : Nat) (q : Lq) (cl : Int) (a : Option Addr) (ca : Nat) (b : List UInt8) (w : World) (hq : LqAt w base q) (ha : Cells w a b) (ha0 : a = none → ca = 0) :
    Calls Try.prog 15 #[.pointer (some ⟨q.g, 0, none⟩), .int .i64 cl, .slice a b.length ca] w (PutL w base q cl b) := by
  have c0 := hq.cell0
  have hal : (q.abs.length : Int) = (q.cs.length : Int) := by simp [Lq.abs]
  unfold Lq.sv at c0
  by_cases h1 : cl < 0
  · have HR : Hid (PutL w base q cl b (.returned (.tuple #[.bool false, .int .i64 211])) w) := PutL.no hq (by unfold putE; rw [if_pos (.inl h1)]) (by decide)
    clear hq ha ha0 hal
    go_enter Try.func15, Try.ntmps15
    go_wp2
    go_ret2
    exact HR.out
  · by_cases h2 : (q.cs.length : Int) ≤ cl
    · have HR : Hid (PutL w base q cl b (.returned (.tuple #[.bool false, .int .i64 211])) w) := PutL.no hq (by unfold putE; rw [if_pos (.inr (by omega))]) (by decide)
      clear hq ha ha0 hal
      go_enter Try.func15, Try.ntmps15
      go_wp2
      go_ret2
      exact HR.out
    · have hx : ¬ (cl < 0 ∨ (q.abs.length : Int) ≤ cl) := by omega
      by_cases h3 : 65535 < b.length
      · have HR : Hid (PutL w base q cl b (.returned (.tuple #[.bool false, .int .i64 212])) w) := PutL.no hq (by unfold putE; rw [if_neg hx, if_pos h3]) (by decide)
        have h3' : (65535 : Int) < (b.length : Int) := by omega
        clear hq ha ha0 hal hx h3
        go_enter Try.func15, Try.ntmps15
        go_wp2
        go_ret2
        exact HR.out
      · have hE : putE q.abs cl b = 0 := by unfold putE; rw [if_neg hx, if_neg h3]
        obtain ⟨k, rfl⟩ := Int.eq_ofNat_of_zero_le (show 0 ≤ cl by omega)
        have hk : k < q.cs.length := by omega
        have hkc : q.cs[k]? = some q.cs[k] := List.getElem?_eq_getElem hk
        have CP := lput_any base k q q.cs[k] a ca b w hq hkc ha ha0 (by omega)
        generalize q.cs[k] = c at *
        have hB : putB q.abs (k : Int) b = c.abs.room := by
          unfold putB
          rw [if_pos hE]
          unfold Lq.abs
          rw [Int.toNat_natCast, abs_get hkc]
        have HR : Hid (∀ w', PutQ w base q k c b w' → PutL w base q (k : Int) b (.returned (.tuple #[.bool c.abs.room, .int .i64 0])) w') := fun w' ⟨c', h1, h2, h3, h4⟩ => by
          refine ⟨by rw [hB, hE], q.with k c', h2, rfl, ?_, h3, h4⟩
          unfold putP
          rw [if_pos hE]
          unfold Lq.abs Lq.with
          rw [Int.toNat_natCast, abs_get hkc, List.map_set, h1]
        have h3' : ¬ (65535 : Int) < (b.length : Int) := by omega
        have hki : ¬ ((q.cs.length : Int) ≤ (k : Int)) := by omega
        have hki2 : (k : Int) < (q.cs.length : Int) := by omega
        have hki3 : ¬ ((k : Int) < 0) := by omega
        clear hq ha ha0 hal hx h3 h1 h2 hE hB hkc
        go_enter Try.func15, Try.ntmps15
        go_wp2_with fail
        refine CP.mono ?_
        rintro e w1 ⟨rfl, P⟩
        have HP := HR.out _ P
        have HP' : Hid _ := HP
        clear CP HP P HR
        go_wp2
        go_ret2
        exact HP'.out

def SameW (a b : World) : Prop := a = b
theorem SameW.refl (a : World) : SameW a a := rfl

/-- What Take leaves. -/
def TakeL (w : World) (base : Nat) (q : Lq) (e : Ending) (w' : World) : Prop :=
  (takeP q.abs = none ∧ e = .returned (.tuple #[.int .i64 0, .slice none 0 0, .bool false]) ∧ w' = w) ∨
  ∃ n v b, ∃ q' : Lq, takeP q.abs = some (n, b, q'.abs) ∧ e = .returned (.tuple #[.int .i64 (n : Int), v, .bool true]) ∧ LqAt w' base q' ∧ q'.g = q.g ∧ GW w w' q.foot ∧ Foots w q.foot q'.foot ∧ Owns w' base v b ∧ ∀ x, v.ownBlock = some x → q.foot x ∧ ¬ q'.foot x

theorem abs_fr (c : Cq) : c.abs.fr = c.fs.map Fr.b := rfl

set_option maxHeartbeats 2000000 in
theorem lqtake_any (base : Nat) (q : Lq) (w : World) (hq : LqAt w base q) :
    Calls Try.prog 18 #[.pointer (some ⟨q.g, 0, none⟩)] w (TakeL w base q) := by
  have c0 := hq.cell0
  unfold Lq.sv at c0
  have HQ : Hid (LqAt w base q) := hq
  clear hq
  obtain ⟨N, hN⟩ : ∃ N, q.cs.length = N := ⟨_, rfl⟩
  have HN : Hid (q.cs.length = N) := hN
  have hN17 : N ≤ 17 := by rw [← hN]; exact HQ.out.few
  rw [hN] at c0
  clear hN
  go_enter Try.func18, Try.ntmps18
  go_wp2
  go_loopw [13] (fun i wr => ∃ k : Nat, k ≤ N ∧ i = .int .i64 k ∧ SameW w wr ∧ ∀ j, j < k → ∀ c, q.cs[j]? = some c → c.fs = []) (fun i _ => N - (intOf i).toNat)
  case atStart => exact ⟨0, Nat.zero_le _, rfl, SameW.refl _, fun j hj => by omega⟩
  case round =>
    obtain ⟨k, hk, rfl, hw, HB⟩ := hrel
    obtain rfl : w = wr := hw
    have HBH : Hid (∀ j, j < k → ∀ c, q.cs[j]? = some c → c.fs = []) := HB
    clear HB
    by_cases hlt : k < N
    · have hkc : q.cs[k]? = some (q.cs[k]'(by have := HN.out; omega)) := List.getElem?_eq_getElem _
      generalize q.cs[k]'(by have := HN.out; omega) = c at *
      have hli : (k : Int) < (N : Int) := by omega
      cases hf : c.fs with
      | nil =>
        have CT := ltake_none base k q c w HQ.out hkc hf
        have HR : Hid (∀ j, j < k + 1 → ∀ c, q.cs[j]? = some c → c.fs = []) := fun j hj d hd => by
          by_cases e : j = k
          · subst e
            rw [hkc] at hd
            cases hd
            exact hf
          · exact HBH.out j (by omega) d hd
        clear hkc hf HBH
        go_wp2_with fail
        refine CT.mono ?_
        rintro e w1 ⟨rfl, rfl⟩
        clear CT
        go_wp2
        go_roundw
        case rel => exact ⟨k + 1, by omega, by go_num, SameW.refl _, HR.out⟩
        case measure => simp [intOf]; omega
      | cons f t =>
        have CT := ltake_some base k q c f t w HQ.out hkc hf
        have HR : Hid (∀ w', TookL w base q k c f t w' → TakeL w base q (.returned (.tuple #[.int .i64 (k : Int), f.v, .bool true])) w') := fun w' ⟨v', h1, h2, h3, h4, h5⟩ => by
          refine .inr ⟨k, f.v, f.b, q.with k ⟨c.dep, c.lost, v', t⟩, ?_, rfl, h1, rfl, h2, h3, h4, h5⟩
          have := take_at q.abs k c.abs f.b (t.map Fr.b) (by simp [Lq.abs, hkc]) (by rw [abs_fr, hf]; rfl) (fun j hj x hx => by
            unfold Lq.abs at hx
            rw [List.getElem?_map] at hx
            cases hd : q.cs[j]? with
            | none => rw [hd] at hx; cases hx
            | some d =>
              rw [hd] at hx
              cases hx
              rw [abs_fr, HBH.out j hj d hd]
              rfl)
          rw [this]
          simp [Lq.abs, Lq.with, List.map_set, Cq.abs]
        clear hkc hf HBH
        go_wp2_with fail
        refine CT.mono ?_
        rintro e w1 ⟨rfl, T⟩
        have HT : Hid _ := HR.out _ T
        clear CT T HR
        generalize f.v = fv at *
        go_wp2
        go_ret3
        exact HT.out
    · obtain rfl : k = N := by omega
      have HR : Hid (TakeL w base q (.returned (.tuple #[.int .i64 0, .slice none 0 0, .bool false])) w) := by
        refine .inl ⟨take_none _ (fun x hx => ?_), rfl, rfl⟩
        obtain ⟨c, hc, rfl⟩ := List.mem_map.1 hx
        obtain ⟨j, hj, rfl⟩ := List.mem_iff_getElem.1 hc
        rw [abs_fr, HBH.out j (by have := HN.out; omega) _ (List.getElem?_eq_getElem hj)]
        rfl
      clear HBH
      go_wp2
      go_ret3
      exact HR.out

end Go.Proofs.Ytlfjpbedjmnpaaa
