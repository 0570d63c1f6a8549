/-
  Package types as landed: Check, Constant. Lists of ints: SameInts, SpoilInts.
-/
import Derived.Test.YtdajpnlpcdnckaaTyW
import Derived.Deep.QuietTactic
import Derived.Test.YtdajpnlpcdnckaaLotP6
import Derived.Test.YtdajpnlpcdnckaaLotP3
namespace Go.Proofs.Ytdajpnlpcdnckaa
open Go.RowKit
set_option maxRecDepth 100000

/-- What stands of a part: one that is no constant has no value, a truth is no constant. -/
def Pt.ok (p : Pt) : Prop := (p.fixed = false → p.val = 0) ∧ (p.truth = true → p.fixed = false)
theorem joinG_ok (x : Ng) (ps : List Pt) : (joinG x ps).ok := by
  unfold joinG
  split
  · cases e : valG x ps with
    | none => exact ⟨fun _ => rfl, fun _ => rfl⟩
    | some v =>
      refine ⟨(fun h => by cases h), fun h => ?_⟩
      simp only [truthG, decide_eq_true_eq] at h
      unfold valG at e
      rw [if_neg (by omega), if_neg (by omega), if_neg (by omega)] at e
      cases e
  · exact ⟨fun _ => rfl, fun _ => rfl⟩
theorem stepG_ok {x : Ng} {st s : List Pt} (h : stepG x st = .ok s) (hs : ∀ p ∈ st, p.ok) : ∀ p ∈ s, p.ok := by
  unfold stepG at h
  split at h
  · cases h
  · split at h
    · cases h
    · split at h
      · cases h
      · cases h
        intro p hp
        rcases List.mem_append.1 hp with hp | hp
        · exact hs p (List.mem_of_mem_take hp)
        · rw [List.mem_singleton.1 hp]; exact joinG_ok _ _
theorem walkG_ok : ∀ (l : List Ng) (st s : List Pt) (k : Nat), walkG st k l = .ok s → (∀ p ∈ st, p.ok) → ∀ p ∈ s, p.ok
  | [], st, s, k, h, hs => by cases h; exact hs
  | x :: l, st, s, k, h, hs => by
    simp only [walkG] at h
    cases e : stepG x st with
    | error e' => rw [e] at h; cases h
    | ok s1 => rw [e] at h; exact walkG_ok l s1 s (k + 1) h (stepG_ok e hs)

def checkR (t : List Ng) : Value := .tuple #[.int .i64 ((checkG t).1 : Int), .int .i64 (checkG t).2]
def constR (o : Option Nat) : Value := match o with
  | some v => .tuple #[.int .u32 (v : Int), .bool true]
  | none => .tuple #[.int .u32 0, .bool false]

set_option maxHeartbeats 2000000 in
theorem check12_any (ao : Option Addr) (cap : Nat) (t : List Ng) (w : World) (C : CV w ao (flatG t)) (hm : t.length * 72 ≤ 140737488355328) (hn : ∀ x ∈ t, x.n ≤ 4294967295) :
    Calls Try.prog 11 #[.slice ao t.length cap] w fun e w' => e = .returned (checkR t) ∧ w.grownBy w' none := by
  have HC : Hid (CV w ao (flatG t)) := C
  obtain ⟨E, hE⟩ : ∃ E, checkR t = E := ⟨_, rfl⟩
  rw [hE]
  have HE : Hid (checkR t = E) := hE
  have HNN : Hid (∀ x ∈ t, x.n ≤ 4294967295) := hn
  clear C hE hn
  go_enter Try.func11, Try.ntmps11
  go_wp2_with fail
  refine (rules_any _).mono ?_
  rintro e w1 ⟨R, rfl, T, K1⟩
  have CW := walk_any ao cap t R w1 T (HC.out.keptNone K1) hm HNN.out
  have HT : Hid (TabT R w1) := T
  have HK1 : Hid (w.grownBy w1 none) := K1
  clear T K1
  go_wp2_with fail
  refine CW.mono ?_
  rintro e w2 ⟨v, hR, O, K2⟩
  clear CW
  cases hwk : walkG [] 0 t with
  | error er =>
    obtain ⟨k, er⟩ := er
    rw [hwk] at hR
    simp only [walkR] at hR
    subst hR
    have h3 := walkG_er t [] 0 hwk
    have e1 : (er != 0) = true := by rw [bne_iff_ne]; omega
    have HF : Hid (E = .tuple #[.int .i64 (k : Int), .int .i64 er]) := by
      show E = _
      rw [← HE.out, checkR, checkG, hwk]
    have G := grown_trans HK1.out K2
    clear O hwk h3
    go_wp2
    go_ret2
    exact ⟨by rw [HF.out]; rfl, G⟩
  | ok st =>
    rw [hwk] at hR O
    simp only [walkR] at hR
    subst hR
    have HO : Hid (POwns w2 w1.heap.size v st) := O
    obtain ⟨aL, cL, rfl, CL, -⟩ := cv_of_row O
    have HG : Hid (w.grownBy w2 none) := grown_trans HK1.out K2
    have HCK : Hid (checkG t = if st.length ≠ 1 then (t.length, (120 : Int)) else if (st.getD 0 pt0).truth = false then (t.length - 1, 121) else match heavyG 0 0 t with | some k => (k, (126 : Int)) | none => (0, 0)) := by
      show _ = _
      rw [checkG, hwk]
      rfl
    have hlen := walkG_len t [] st 0 hwk
    simp only [walkL, List.length_nil, Nat.zero_add] at hlen CL ⊢
    by_cases h1 : st.length = 1
    · match st, h1 with
      | [p], _ =>
        obtain ⟨b, o, rfl, hc⟩ := CL.pts ptC_len (k := 0) (by simp)
        have c0 := hc 0 (by simp) 0 (.int .i64 (if p.truth = true then 0 else 1)) rfl
        simp only [Nat.zero_mul, Nat.add_zero] at c0
        have hl1 : 1 ≤ t.length := by simpa using hlen
        rw [show [p].length = 1 from rfl]
        clear CL hc O hlen hwk HO
        cases hp : p.truth with
        | false =>
          rw [hp] at c0
          have HF : Hid (E = .tuple #[.int .i64 ((t.length - 1 : Nat) : Int), .int .i64 121]) := by
            show E = _
            rw [← HE.out, checkR, HCK.out]
            simp [hp]
          have q : ((t.length - 1 : Nat) : Int) = (t.length : Int) - 1 := by omega
          have w3 : IntKind.i64.wrap ((t.length : Int) - 1) = (t.length : Int) - 1 := by rw [IntKind.wrap_i64]; omega
          rw [q] at HF
          clear q HCK hp
          go_wp2
          go_ret2
          exact ⟨by rw [HF.out]; rfl, HG.out⟩
        | true =>
          rw [hp] at c0
          have HF : Hid (checkG t = match heavyG 0 0 t with | some k => (k, (126 : Int)) | none => (0, 0)) := by
            show _ = _
            rw [HCK.out]
            simp [hp]
          have CH := heavy_any ao cap t R w2 (HT.out.kept K2) (HC.out.keptNone HG.out) hm
          clear HCK hp
          go_wp2_with fail
          refine CH.mono ?_
          rintro e w3 ⟨rfl, K3⟩
          have G3 := grown_trans HG.out K3
          clear CH K3
          cases hh : heavyG 0 0 t with
          | none =>
            have HF2 : Hid (E = .tuple #[.int .i64 0, .int .i64 0]) := by
              show E = _
              rw [← HE.out, checkR, HF.out, hh]
              rfl
            simp only [heavyR]
            clear hh HF
            go_wp2
            go_ret2
            exact ⟨by rw [HF2.out]; rfl, G3⟩
          | some q =>
            have HF2 : Hid (E = .tuple #[.int .i64 (q : Int), .int .i64 126]) := by
              show E = _
              rw [← HE.out, checkR, HF.out, hh]
            simp only [heavyR]
            clear hh HF
            go_wp2
            go_ret2
            exact ⟨by rw [HF2.out]; rfl, G3⟩
    · have e1 : ((st.length : Int) != 1) = true := by rw [bne_iff_ne]; omega
      have HF : Hid (E = .tuple #[.int .i64 (t.length : Int), .int .i64 120]) := by
        show E = _
        rw [← HE.out, checkR, HCK.out, if_pos h1]
      clear h1 CL O hwk HO HCK hlen
      go_wp2
      go_ret2
      exact ⟨by rw [HF.out]; rfl, HG.out⟩

set_option maxHeartbeats 2000000 in
theorem const12_any (ao : Option Addr) (cap : Nat) (t : List Ng) (w : World) (C : CV w ao (flatG t)) (hm : t.length * 72 ≤ 140737488355328) (hn : ∀ x ∈ t, x.n ≤ 4294967295) :
    Calls Try.prog 15 #[.slice ao t.length cap] w fun e w' => e = .returned (constR (constG t)) ∧ w.grownBy w' none := by
  have HC : Hid (CV w ao (flatG t)) := C
  obtain ⟨E, hE⟩ : ∃ E, constR (constG t) = E := ⟨_, rfl⟩
  rw [hE]
  have HE : Hid (constR (constG t) = E) := hE
  have HNN : Hid (∀ x ∈ t, x.n ≤ 4294967295) := hn
  clear C hE hn
  go_enter Try.func15, Try.ntmps15
  go_wp2_with fail
  refine (rules_any _).mono ?_
  rintro e w1 ⟨R, rfl, T, K1⟩
  have CW := walk_any ao cap t R w1 T (HC.out.keptNone K1) hm HNN.out
  have HK1 : Hid (w.grownBy w1 none) := K1
  clear T K1
  go_wp2_with fail
  refine CW.mono ?_
  rintro e w2 ⟨v, hR, O, K2⟩
  clear CW
  have HG : Hid (w.grownBy w2 none) := grown_trans HK1.out K2
  cases hwk : walkG [] 0 t with
  | error er =>
    obtain ⟨k, er⟩ := er
    rw [hwk] at hR
    simp only [walkR] at hR
    subst hR
    have h3 := walkG_er t [] 0 hwk
    have e1 : (er != 0) = true := by rw [bne_iff_ne]; omega
    have HF : Hid (E = .tuple #[.int .u32 0, .bool false]) := by
      show E = _
      rw [← HE.out, constG, hwk]
      rfl
    clear O hwk h3
    go_wp2
    go_ret2
    exact ⟨by rw [HF.out]; rfl, HG.out⟩
  | ok st =>
    rw [hwk] at hR O
    simp only [walkR] at hR
    subst hR
    obtain ⟨aL, cL, rfl, CL, -⟩ := cv_of_row O
    have HCK : Hid (constG t = if st.length ≠ 1 then none else if (st.getD 0 pt0).fixed = true then some (st.getD 0 pt0).val else none) := by
      show _ = _
      rw [constG, hwk]
    have hok := walkG_ok t [] st 0 hwk (fun p hp => by cases hp)
    simp only [walkL] at CL ⊢
    by_cases h1 : st.length = 1
    · match st, h1 with
      | [p], _ =>
        obtain ⟨b, o, rfl, hc⟩ := CL.pts ptC_len (k := 0) (by simp)
        have c1 := hc 0 (by simp) 1 (.bool p.fixed) rfl
        have c2 := hc 0 (by simp) 2 (.int .u32 (p.val : Int)) rfl
        simp only [Nat.zero_mul, Nat.add_zero] at c1 c2
        have hpo := hok p (by simp)
        have HF : Hid (E = .tuple #[.int .u32 (p.val : Int), .bool p.fixed]) := by
          show E = _
          rw [← HE.out, HCK.out]
          cases hf : p.fixed with
          | true => simp [hf, constR]
          | false => simp [hf, constR, hpo.1 hf]
        rw [show [p].length = 1 from rfl]
        generalize (p.val : Int) = pv at *
        generalize p.fixed = pf at *
        clear CL hc O hok hwk hpo HCK
        go_upto_region 4 with fail
        go_quiet (fail)
        go_wp2
        go_ret2
        exact ⟨by rw [HF.out]; rfl, grown_trans HG.out (grown_drewN _ _ none)⟩
    · have e1 : ((st.length : Int) != 1) = true := by rw [bne_iff_ne]; omega
      have HF : Hid (E = .tuple #[.int .u32 0, .bool false]) := by
        show E = _
        rw [← HE.out, HCK.out, if_pos h1]
        rfl
      clear h1 CL O hwk HCK hok
      go_wp2
      go_ret2
      exact ⟨by rw [HF.out]; rfl, HG.out⟩

end Go.Proofs.Ytdajpnlpcdnckaa

namespace Go.Proofs.Ytdajpnlpcdnckaa
open Go.RowKit
set_option maxRecDepth 100000


def iv (z : Int) : Value := .int .i64 z

abbrev ZOwns (w : World) (base : Nat) (v : Value) (bs : List Int) : Prop := w.ownsRow base 3 1 v bs.length (bs.map iv)

theorem CV.ints {w : World} {ao : Option Addr} {bs : List Int} (h : CV w ao (bs.map iv)) {k : Nat} (hk : k < bs.length) :
    ∃ b off, ao = some ⟨b, off, none⟩ ∧ ∀ i (hi : i < bs.length), w.cell? ⟨b, off + i, none⟩ = some (.int .i64 bs[i]) := by
  obtain ⟨b, off, hao, hc⟩ := h.addr (k := k) (by simpa using hk)
  exact ⟨b, off, hao, fun i hi => by rw [hc i (by simpa using hi)]; simp [iv]⟩

/-- The two loops of SpoilInts, behind its append. -/
def ZSpoilRel (w : World) (row : Option Nat) (g g' n n' : Nat) (wr : World) : Prop := BlkN wr 3 g n ∧ BlkN wr 3 g' n' ∧ w.grownBy wr row

theorem ZSpoilRel.set {w wr : World} {row : Option Nat} {g g' n n' : Nat} (h : ZSpoilRel w row g g' n n' wr) {p : Addr} (hp : row = some p.block ∨ w.heap.size ≤ p.block) (u : Value) : ZSpoilRel w row g g' n n' (wr.setCell p u) :=
  ⟨h.1.setCell _ _, h.2.1.setCell _ _, grown_setCell h.2.2 _ _ hp⟩

end Go.Proofs.Ytdajpnlpcdnckaa
