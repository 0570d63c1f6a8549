/-
  Package types as landed: Check, Constant. Lists of ints: SameInts, SpoilInts. Package types as landed: where each of the trees begins that are left.
-/
import Derived.Test.YtgoiblnddfggbaaTyW
import Derived.Deep.QuietTactic
import Derived.Test.YtgoiblnddfggbaaLotP5
import Derived.Test.YtgoiblnddfggbaaLotP3
namespace Go.Proofs.Ytgoiblnddfggbaa
open Go.RowKit
set_option maxRecDepth 100000

/-- What stands of a part: one that is no constant has no value, a truth is no constant. -/
def Pt.ok (p : Pt) : Prop := (p.fixed = false → p.val = 0) ∧ (p.truth = true → p.fixed = false)
theorem joinG_ok (x : Ng) (ps : List Pt) : (joinG x ps).ok := by
  unfold joinG
  split
  · cases e : valG x ps with
    | none => exact ⟨fun _ => rfl, fun _ => rfl⟩
    | some v =>
      refine ⟨(fun h => by cases h), fun h => ?_⟩
      simp only [truthG, decide_eq_true_eq] at h
      unfold valG at e
      rw [if_neg (by omega), if_neg (by omega), if_neg (by omega)] at e
      cases e
  · exact ⟨fun _ => rfl, fun _ => rfl⟩
theorem stepG_ok {x : Ng} {st s : List Pt} (h : stepG x st = .ok s) (hs : ∀ p ∈ st, p.ok) : ∀ p ∈ s, p.ok := by
  unfold stepG at h
  split at h
  · cases h
  · split at h
    · cases h
    · split at h
      · cases h
      · cases h
        intro p hp
        rcases List.mem_append.1 hp with hp | hp
        · exact hs p (List.mem_of_mem_take hp)
        · rw [List.mem_singleton.1 hp]; exact joinG_ok _ _
theorem walkG_ok : ∀ (l : List Ng) (st s : List Pt) (k : Nat), walkG st k l = .ok s → (∀ p ∈ st, p.ok) → ∀ p ∈ s, p.ok
  | [], st, s, k, h, hs => by cases h; exact hs
  | x :: l, st, s, k, h, hs => by
    simp only [walkG] at h
    cases e : stepG x st with
    | error e' => rw [e] at h; cases h
    | ok s1 => rw [e] at h; exact walkG_ok l s1 s (k + 1) h (stepG_ok e hs)

def checkR (t : List Ng) : Value := .tuple #[.int .i64 ((checkG t).1 : Int), .int .i64 (checkG t).2]
def constR (o : Option Nat) : Value := match o with
  | some v => .tuple #[.int .u32 (v : Int), .bool true]
  | none => .tuple #[.int .u32 0, .bool false]

set_option maxHeartbeats 2000000 in
theorem check12_any (ao : Option Addr) (cap : Nat) (t : List Ng) (w : World) (C : CV w ao (flatG t)) (hm : t.length * 72 ≤ 140737488355328) (hn : ∀ x ∈ t, x.n ≤ 4294967295) :
    Calls Try.prog 8 #[.slice ao t.length cap] w fun e w' => e = .returned (checkR t) ∧ w.grownBy w' none := by
  have HC : Hid (CV w ao (flatG t)) := C
  obtain ⟨E, hE⟩ : ∃ E, checkR t = E := ⟨_, rfl⟩
  rw [hE]
  have HE : Hid (checkR t = E) := hE
  have HNN : Hid (∀ x ∈ t, x.n ≤ 4294967295) := hn
  clear C hE hn
  go_enter Try.func8, Try.ntmps8
  go_wp2_with fail
  refine (rules_any _).mono ?_
  rintro e w1 ⟨R, rfl, T, K1⟩
  have CW := walk_any ao cap t R w1 T (HC.out.keptNone K1) hm HNN.out
  have HT : Hid (TabT R w1) := T
  have HK1 : Hid (w.grownBy w1 none) := K1
  clear T K1
  go_wp2_with fail
  refine CW.mono ?_
  rintro e w2 ⟨v, hR, O, K2⟩
  clear CW
  cases hwk : walkG [] 0 t with
  | error er =>
    obtain ⟨k, er⟩ := er
    rw [hwk] at hR
    simp only [walkR] at hR
    subst hR
    have h3 := walkG_er t [] 0 hwk
    have e1 : (er != 0) = true := by rw [bne_iff_ne]; omega
    have HF : Hid (E = .tuple #[.int .i64 (k : Int), .int .i64 er]) := by
      show E = _
      rw [← HE.out, checkR, checkG, hwk]
    have G := grown_trans HK1.out K2
    clear O hwk h3
    go_wp2
    go_ret2
    exact ⟨by rw [HF.out]; rfl, G⟩
  | ok st =>
    rw [hwk] at hR O
    simp only [walkR] at hR
    subst hR
    have HO : Hid (POwns w2 w1.heap.size v st) := O
    obtain ⟨aL, cL, rfl, CL, -⟩ := cv_of_row O
    have HG : Hid (w.grownBy w2 none) := grown_trans HK1.out K2
    have HCK : Hid (checkG t = if st.length ≠ 1 then (t.length, (120 : Int)) else if (st.getD 0 pt0).truth = false then (t.length - 1, 121) else match heavyG 0 0 t with | some k => (k, (126 : Int)) | none => (0, 0)) := by
      show _ = _
      rw [checkG, hwk]
      rfl
    have hlen := walkG_len t [] st 0 hwk
    simp only [walkL, List.length_nil, Nat.zero_add] at hlen CL ⊢
    by_cases h1 : st.length = 1
    · match st, h1 with
      | [p], _ =>
        obtain ⟨b, o, rfl, hc⟩ := CL.pts ptC_len (k := 0) (by simp)
        have c0 := hc 0 (by simp) 0 (.int .i64 (if p.truth = true then 0 else 1)) rfl
        simp only [Nat.zero_mul, Nat.add_zero] at c0
        have hl1 : 1 ≤ t.length := by simpa using hlen
        rw [show [p].length = 1 from rfl]
        clear CL hc O hlen hwk HO
        cases hp : p.truth with
        | false =>
          rw [hp] at c0
          have HF : Hid (E = .tuple #[.int .i64 ((t.length - 1 : Nat) : Int), .int .i64 121]) := by
            show E = _
            rw [← HE.out, checkR, HCK.out]
            simp [hp]
          have q : ((t.length - 1 : Nat) : Int) = (t.length : Int) - 1 := by omega
          have w3 : IntKind.i64.wrap ((t.length : Int) - 1) = (t.length : Int) - 1 := by rw [IntKind.wrap_i64]; omega
          rw [q] at HF
          clear q HCK hp
          go_wp2
          go_ret2
          exact ⟨by rw [HF.out]; rfl, HG.out⟩
        | true =>
          rw [hp] at c0
          have HF : Hid (checkG t = match heavyG 0 0 t with | some k => (k, (126 : Int)) | none => (0, 0)) := by
            show _ = _
            rw [HCK.out]
            simp [hp]
          have CH := heavy_any ao cap t R w2 (HT.out.kept K2) (HC.out.keptNone HG.out) hm
          clear HCK hp
          go_wp2_with fail
          refine CH.mono ?_
          rintro e w3 ⟨rfl, K3⟩
          have G3 := grown_trans HG.out K3
          clear CH K3
          cases hh : heavyG 0 0 t with
          | none =>
            have HF2 : Hid (E = .tuple #[.int .i64 0, .int .i64 0]) := by
              show E = _
              rw [← HE.out, checkR, HF.out, hh]
              rfl
            simp only [heavyR]
            clear hh HF
            go_wp2
            go_ret2
            exact ⟨by rw [HF2.out]; rfl, G3⟩
          | some q =>
            have HF2 : Hid (E = .tuple #[.int .i64 (q : Int), .int .i64 126]) := by
              show E = _
              rw [← HE.out, checkR, HF.out, hh]
            simp only [heavyR]
            clear hh HF
            go_wp2
            go_ret2
            exact ⟨by rw [HF2.out]; rfl, G3⟩
    · have e1 : ((st.length : Int) != 1) = true := by rw [bne_iff_ne]; omega
      have HF : Hid (E = .tuple #[.int .i64 (t.length : Int), .int .i64 120]) := by
        show E = _
        rw [← HE.out, checkR, HCK.out, if_pos h1]
      clear h1 CL O hwk HO HCK hlen
      go_wp2
      go_ret2
      exact ⟨by rw [HF.out]; rfl, HG.out⟩

set_option maxHeartbeats 2000000 in
theorem const12_any (ao : Option Addr) (cap : Nat) (t : List Ng) (w : World) (C : CV w ao (flatG t)) (hm : t.length * 72 ≤ 140737488355328) (hn : ∀ x ∈ t, x.n ≤ 4294967295) :
    Calls Try.prog 12 #[.slice ao t.length cap] w fun e w' => e = .returned (constR (constG t)) ∧ w.grownBy w' none := by
  have HC : Hid (CV w ao (flatG t)) := C
  obtain ⟨E, hE⟩ : ∃ E, constR (constG t) = E := ⟨_, rfl⟩
  rw [hE]
  have HE : Hid (constR (constG t) = E) := hE
  have HNN : Hid (∀ x ∈ t, x.n ≤ 4294967295) := hn
  clear C hE hn
  go_enter Try.func12, Try.ntmps12
  go_wp2_with fail
  refine (rules_any _).mono ?_
  rintro e w1 ⟨R, rfl, T, K1⟩
  have CW := walk_any ao cap t R w1 T (HC.out.keptNone K1) hm HNN.out
  have HK1 : Hid (w.grownBy w1 none) := K1
  clear T K1
  go_wp2_with fail
  refine CW.mono ?_
  rintro e w2 ⟨v, hR, O, K2⟩
  clear CW
  have HG : Hid (w.grownBy w2 none) := grown_trans HK1.out K2
  cases hwk : walkG [] 0 t with
  | error er =>
    obtain ⟨k, er⟩ := er
    rw [hwk] at hR
    simp only [walkR] at hR
    subst hR
    have h3 := walkG_er t [] 0 hwk
    have e1 : (er != 0) = true := by rw [bne_iff_ne]; omega
    have HF : Hid (E = .tuple #[.int .u32 0, .bool false]) := by
      show E = _
      rw [← HE.out, constG, hwk]
      rfl
    clear O hwk h3
    go_wp2
    go_ret2
    exact ⟨by rw [HF.out]; rfl, HG.out⟩
  | ok st =>
    rw [hwk] at hR O
    simp only [walkR] at hR
    subst hR
    obtain ⟨aL, cL, rfl, CL, -⟩ := cv_of_row O
    have HCK : Hid (constG t = if st.length ≠ 1 then none else if (st.getD 0 pt0).fixed = true then some (st.getD 0 pt0).val else none) := by
      show _ = _
      rw [constG, hwk]
    have hok := walkG_ok t [] st 0 hwk (fun p hp => by cases hp)
    simp only [walkL] at CL ⊢
    by_cases h1 : st.length = 1
    · match st, h1 with
      | [p], _ =>
        obtain ⟨b, o, rfl, hc⟩ := CL.pts ptC_len (k := 0) (by simp)
        have c1 := hc 0 (by simp) 1 (.bool p.fixed) rfl
        have c2 := hc 0 (by simp) 2 (.int .u32 (p.val : Int)) rfl
        simp only [Nat.zero_mul, Nat.add_zero] at c1 c2
        have hpo := hok p (by simp)
        have HF : Hid (E = .tuple #[.int .u32 (p.val : Int), .bool p.fixed]) := by
          show E = _
          rw [← HE.out, HCK.out]
          cases hf : p.fixed with
          | true => simp [hf, constR]
          | false => simp [hf, constR, hpo.1 hf]
        rw [show [p].length = 1 from rfl]
        generalize (p.val : Int) = pv at *
        generalize p.fixed = pf at *
        clear CL hc O hok hwk hpo HCK
        go_upto_region 4 with fail
        go_quiet (fail)
        go_wp2
        go_ret2
        exact ⟨by rw [HF.out]; rfl, grown_trans HG.out (grown_drewN _ _ none)⟩
    · have e1 : ((st.length : Int) != 1) = true := by rw [bne_iff_ne]; omega
      have HF : Hid (E = .tuple #[.int .u32 0, .bool false]) := by
        show E = _
        rw [← HE.out, HCK.out, if_pos h1]
        rfl
      clear h1 CL O hwk HCK hok
      go_wp2
      go_ret2
      exact ⟨by rw [HF.out]; rfl, HG.out⟩

end Go.Proofs.Ytgoiblnddfggbaa

namespace Go.Proofs.Ytgoiblnddfggbaa
open Go.RowKit
set_option maxRecDepth 100000


def iv (z : Int) : Value := .int .i64 z

abbrev ZOwns (w : World) (base : Nat) (v : Value) (bs : List Int) : Prop := w.ownsRow base 3 1 v bs.length (bs.map iv)

theorem CV.ints {w : World} {ao : Option Addr} {bs : List Int} (h : CV w ao (bs.map iv)) {k : Nat} (hk : k < bs.length) :
    ∃ b off, ao = some ⟨b, off, none⟩ ∧ ∀ i (hi : i < bs.length), w.cell? ⟨b, off + i, none⟩ = some (.int .i64 bs[i]) := by
  obtain ⟨b, off, hao, hc⟩ := h.addr (k := k) (by simpa using hk)
  exact ⟨b, off, hao, fun i hi => by rw [hc i (by simpa using hi)]; simp [iv]⟩

/-- The two loops of SpoilInts, behind its append. -/
def ZSpoilRel (w : World) (row : Option Nat) (g g' n n' : Nat) (wr : World) : Prop := BlkN wr 3 g n ∧ BlkN wr 3 g' n' ∧ w.grownBy wr row

theorem ZSpoilRel.set {w wr : World} {row : Option Nat} {g g' n n' : Nat} (h : ZSpoilRel w row g g' n n' wr) {p : Addr} (hp : row = some p.block ∨ w.heap.size ≤ p.block) (u : Value) : ZSpoilRel w row g g' n n' (wr.setCell p u) :=
  ⟨h.1.setCell _ _, h.2.1.setCell _ _, grown_setCell h.2.2 _ _ hp⟩

end Go.Proofs.Ytgoiblnddfggbaa

namespace Go.Proofs.Ytgoiblnddfggbaa
open Go.RowKit
set_option maxRecDepth 100000

def sv (n : Nat) : Value := .int .i64 (n : Int)
abbrev TsOwns (w : World) (base : Nat) (v : Value) (ss : List Nat) : Prop := w.ownsRow base 3 1 v ss.length (ss.map sv)
theorem sv_one (ss : List Nat) : ∀ u ∈ ss.map sv, u.oneCell' = true := by
  intro u hu
  obtain ⟨n, -, rfl⟩ := List.mem_map.1 hu
  rfl
theorem info_int : (Try.prog.info? 3).map (fun i => (i.zero, i.size, i.bytes)) = some (some (.int .i64 0), 1, 8) := by kernel_rfl
theorem lit_one_int (z : Int) (W : World) : (Instr.buildSlice 59 1 #[(0, .int .i64 z)]).run Try.prog W = .ok (.slice (some ⟨W.heap.size, 0, none⟩) 1 1) (W.alloc (.cells [.int .i64 z].toArray 3)) := by kernel_rfl

theorem startsG_none {t : List Ng} {ss : List Nat} {k : Nat} (hk : k < t.length) (h : arG t[k].kind = none) : startsG ss k (t.drop k) = none := by
  rw [List.drop_eq_getElem_cons hk, startsG, h]
theorem startsG_few {t : List Ng} {ss : List Nat} {k a : Nat} (hk : k < t.length) (h : arG t[k].kind = some a) (hl : ss.length < a) : startsG ss k (t.drop k) = none := by
  rw [List.drop_eq_getElem_cons hk, startsG, h]
  simp only
  rw [if_pos hl]
theorem startsG_leaf {t : List Ng} {ss : List Nat} {k : Nat} (hk : k < t.length) (h : arG t[k].kind = some 0) : startsG ss k (t.drop k) = startsG (ss ++ [k]) (k + 1) (t.drop (k + 1)) := by
  rw [List.drop_eq_getElem_cons hk, startsG, h]
  simp only [Nat.not_lt_zero, if_false, if_true]
theorem startsG_node {t : List Ng} {ss : List Nat} {k a : Nat} (hk : k < t.length) (h : arG t[k].kind = some a) (hl : ¬ ss.length < a) (ha : a ≠ 0) : startsG ss k (t.drop k) = startsG (ss.take (ss.length - a + 1)) (k + 1) (t.drop (k + 1)) := by
  rw [List.drop_eq_getElem_cons hk, startsG, h]
  simp only
  rw [if_neg hl, if_neg ha]

/-- What startsOf tells. -/
def startR (x : Option (List Nat)) (v : Value) (e : Ending) : Prop := match x with
  | none => e = .returned (.tuple #[.slice none 0 0, .bool false])
  | some _ => e = .returned (.tuple #[v, .bool true])

set_option maxHeartbeats 8000000 in
theorem starts_any (ao : Option Addr) (cap : Nat) (t : List Ng) (R : RT) (w : World) (T : TabT R w) (C : CV w ao (flatG t)) (hm : t.length * 72 ≤ 140737488355328) :
    Calls Try.prog 30 #[.slice (some ⟨R.g, 0, none⟩) 17 17, .slice ao t.length cap] w fun e w' => ∃ v, startR (startsG [] 0 t) v e ∧ TsOwns w' w.heap.size v ((startsG [] 0 t).getD []) ∧ w.grownBy w' none := by
  have HC : Hid (CV w ao (flatG t)) := C
  have HT : Hid (TabT R w) := T
  obtain ⟨i0, hi0, hz0, hz1, hz2⟩ := info_parts info_int
  have HI : Hid _ := hi0
  have HI1 : Hid _ := hz0
  have HI2 : Hid _ := hz1
  have HI3 : Hid _ := hz2
  clear C T hi0 hz0 hz1 hz2
  go_enter Try.func30, Try.ntmps30
  go_wp2
  go_loopw [6, 14] (fun v i wr => ∃ (k : Nat) (ss : List Nat), k ≤ t.length ∧ ss.length ≤ k ∧ i = .int .i64 k ∧ Hid (TsOwns wr w.heap.size v ss ∧ startsG [] 0 t = startsG ss k (t.drop k) ∧ w.grownBy wr none)) (fun _ i _ => t.length - (intOf i).toNat)
  case atStart => exact ⟨0, [], Nat.zero_le _, Nat.le_refl _, rfl, World.ownsRow_nil _ _ _ _, rfl, World.grownBy.refl _ _⟩
  case round =>
    obtain ⟨k, ss, hk, hst, rfl, HI4⟩ := hrel
    by_cases hlt : k < t.length
    · obtain ⟨O, hw, G⟩ := HI4.out
      obtain ⟨b, o, rfl, hc⟩ := (HC.out.keptNone G).ngs hlt
      have HR : Hid (wr.rangeAt b (o + k * 24) t[k].cells) := hc k hlt
      have HZ : Hid ((Try.prog.info? 46).map (·.size) = some t[k].cells.length ∧ (Try.prog.info? 46).map (·.size) = some t[k].cells.toArray.size ∧ 24 = t[k].cells.toArray.size ∧ t[k].cells.toArray.all (·.oneCell') = true) := ⟨ng_len _, ng_size _, rfl, ng_all _⟩
      have K2 := World.grownBy_alloc wr (.cells t[k].cells.toArray 46) none
      have c0 : (wr.alloc (.cells t[k].cells.toArray 46)).cell? ⟨wr.heap.size, 0, none⟩ = some (.int .i64 t[k].kind) := (NB.alloc wr t[k]).kind
      have HO2 : Hid (TsOwns (wr.alloc (.cells t[k].cells.toArray 46)) w.heap.size u6 ss) := owns_keptNone O K2
      have G2 := grown_trans G K2
      have HQ1 : Hid (arG t[k].kind = none → startsG [] 0 t = none) := fun h => by rw [hw]; exact startsG_none hlt h
      have HQ2 : Hid (∀ a, arG t[k].kind = some a → ss.length < a → startsG [] 0 t = none) := fun a h h2 => by rw [hw]; exact startsG_few hlt h h2
      have HQ3 : Hid (arG t[k].kind = some 0 → startsG [] 0 t = startsG (ss ++ [k]) (k + 1) (t.drop (k + 1))) := fun h => by rw [hw]; exact startsG_leaf hlt h
      have HQ4 : Hid (∀ a, arG t[k].kind = some a → ¬ ss.length < a → a ≠ 0 → startsG [] 0 t = startsG (ss.take (ss.length - a + 1)) (k + 1) (t.drop (k + 1))) := fun a h h2 h3 => by rw [hw]; exact startsG_node hlt h h2 h3
      obtain ⟨aL, cL, rfl, -, hb1, hb2, -, -, -⟩ := cv_of_row O
      have hl : (k : Int) < (t.length : Int) := by omega
      have z0 : (0 : Int) ≤ (k : Int) := by omega
      have w3 : IntKind.i64.wrap ((k : Int) + 1) = (k : Int) + 1 := by rw [IntKind.wrap_i64]; omega
      have hcL : cL ≤ 9223372036854775807 := by unfold maxLen at hb2; omega
      clear hc hw G O HI4 hb2
      generalize t[k].kind = xk at *
      generalize t[k].cells = cs at *
      go_upto_region 5 with (first | refine wpList_load_mid rfl 46 (.tmp 17) rfl b (o + k * 24) (by simp [Act.eval]) cs _ HR.out Try.underlying46 rfl HZ.out.1 ?_ | refine wpList_store_row rfl 46 (.tmp 8) (.tmp 18) rfl wr.heap.size cs.toArray rfl rfl 46 _ (heap_alloc_new wr _) HZ.out.2.1 HZ.out.2.2.1 HZ.out.2.2.2 ?_)
      rw [World.setRow_alloc_new]
      generalize wr.alloc (.cells cs.toArray 46) = w2 at *
      generalize wr.heap.size = N at *
      clear HR K2 HZ
      cases ha : arG xk with
      | none =>
        have CR := ruleOf_no R xk ha
        have HF : Hid (startsG [] 0 t = none) := HQ1.out ha
        clear ha HQ1 HQ2 HQ3 HQ4
        go_wp2_with fail
        refine (CR _).mono ?_
        rintro e w4 ⟨rfl, K4⟩
        have K5 := World.grownBy_alloc w4 (.cells rule0.toArray 65) none
        have V5 := VAt.alloc w4 65 rule0.toArray
        clear CR
        go_upto_region 6 with (refine wpList_store_row rfl 65 (.tmp 9) (.tmp 24) rfl w4.heap.size rule0.toArray rfl rfl 65 _ (heap_alloc_new w4 _) size_rule rfl rule0_all ?_)
        rw [World.setRow_alloc_new]
        have G5 := grown_trans (grown_trans G2 K4) K5
        generalize w4.alloc (.cells rule0.toArray 65) = w5 at *
        generalize w4.heap.size = P at *
        have d0 : w5.cell? ⟨P, 0, none⟩ = some (.slice none 0 0) := V5.cell 0
        clear K4 K5 V5 G2 c0 HO2
        have q1 : IntKind.i64.wrap (ss.length : Int) = (ss.length : Int) := by rw [IntKind.wrap_i64]; omega
        go_wp2
        go_ret2
        refine ⟨.slice none 0 0, ?_, ?_, G5⟩
        · rw [HF.out]; rfl
        · rw [HF.out]; exact World.ownsRow_nil _ _ _ _
      | some a =>
        have hin := arG_in ha
        obtain ⟨kn, hkn⟩ : ∃ kn : Nat, xk = kn := Int.eq_ofNat_of_zero_le (by omega)
        have h1 : 1 ≤ kn := by omega
        have h2 : kn ≤ 16 := by omega
        have CR := ruleOf_ok R kn h1 h2 w2 (HT.out.kept G2)
        obtain ⟨tao, tcap, htk, -⟩ := takes_cv HT.out (hkn ▸ ha)
        have HRL : Hid ((Try.prog.info? 65).map (·.size) = some (ruleC R kn).toArray.size ∧ 7 = (ruleC R kn).toArray.size ∧ (ruleC R kn).toArray.all (·.oneCell') = true ∧ (ruleC R kn).toArray[0]? = some (.slice tao a tcap)) := ⟨size_rule, rfl, ruleC_all HT.out h1 h2, by rw [← htk]; rfl⟩
        have HHA : Hid (arG xk = some a) := ha
        have hale := arG_le ha
        rw [hkn] at c0
        obtain ⟨rs, hrs⟩ : ∃ rs, (ruleC R kn).toArray = rs := ⟨_, rfl⟩
        rw [hrs] at CR HRL
        clear hrs hkn hin h1 h2 ha htk
        go_wp2_with fail
        refine CR.mono ?_
        rintro e w4 ⟨rfl, K4⟩
        have K5 := World.grownBy_alloc w4 (.cells rs 65) none
        have V5 := VAt.alloc w4 65 rs
        have HO5 : Hid (TsOwns (w4.alloc (.cells rs 65)) w.heap.size (.slice aL ss.length cL) ss) := owns_keptNone (owns_keptNone HO2.out K4) K5
        have G5 := grown_trans (grown_trans G2 K4) K5
        clear CR HO2 c0 K4 G2
        go_upto_region 6 with (refine wpList_store_row rfl 65 (.tmp 9) (.tmp 24) rfl w4.heap.size rs rfl rfl 65 _ (heap_alloc_new w4 _) HRL.out.1 HRL.out.2.1 HRL.out.2.2.1 ?_)
        rw [World.setRow_alloc_new]
        clear K5
        generalize w4.alloc (.cells rs 65) = w5 at *
        generalize w4.heap.size = P at *
        have d0 : w5.cell? ⟨P, 0, none⟩ = some (.slice tao a tcap) := by rw [V5.cell 0]; exact HRL.out.2.2.2
        clear V5 HRL
        by_cases hfew : ss.length < a
        · have HF : Hid (startsG [] 0 t = none) := HQ2.out _ HHA.out hfew
          have q1 : IntKind.i64.wrap ((ss.length : Int) - (a : Int)) = (ss.length : Int) - (a : Int) := by rw [IntKind.wrap_i64]; omega
          have q2 : (ss.length : Int) - (a : Int) < 0 := by omega
          clear HQ1 HQ2 HQ3 HQ4 hfew
          go_wp2
          go_ret2
          refine ⟨.slice none 0 0, ?_, ?_, G5⟩
          · rw [HF.out]; rfl
          · rw [HF.out]; exact World.ownsRow_nil _ _ _ _
        · obtain ⟨f, hf⟩ : ∃ f, f = ss.length - a := ⟨_, rfl⟩
          have q1 : IntKind.i64.wrap ((ss.length : Int) - (a : Int)) = (f : Int) := by rw [IntKind.wrap_i64]; omega
          have q2 : ¬ (f : Int) < 0 := by omega
          by_cases ha0 : a = 0
          · subst ha0
            have HF : Hid _ := HQ3.out HHA.out
            have e5 : ((0 : Nat) : Int) = 0 := rfl
            have HLE : Hid (ss.length + 1 ≤ maxLen ∧ (ss.length + 1) * 8 ≤ 140737488355328) := by refine ⟨?_, ?_⟩ <;> (try unfold maxLen) <;> omega
            have HBS : Hid (w.heap.size ≤ w5.heap.size) := G5.size
            obtain rfl : f = ss.length := by omega
            rw [e5] at *
            have HG5 : Hid (w.grownBy w5 none) := G5
            have hLI := lit_one_int (k : Int)
            clear HQ1 HQ2 HQ3 HQ4 hfew hf G5
            go_wp2_with (first | (refine wpList_lit (by rfl) 59 1 _ rfl _ (by kernel_rfl) [.int .i64 (k : Int)] 3 hLI ?_; intro V wl CL KL) | (at_builtin; refine wpList_append_cv rfl (.tmp 42) (.tmp 44) 59 rfl 3 i0 _ 1 8 Try.underlying59 HI.out HI1.out HI2.out HI3.out rfl (by decide) w.heap.size _ ss.length (ss.map sv) rfl (owns_keptNone HO5.out KL) (some ⟨V, 0, none⟩) 1 1 [.int .i64 (k : Int)] rfl rfl (by simp) CL (sv_one [k]) HLE.out.1 HLE.out.2 (Nat.le_trans HBS.out KL.size) ?_; intro v9 w9 O9 K9; have HFIN : Hid (TsOwns w9 w.heap.size v9 (ss ++ [k]) ∧ startsG [] 0 t = startsG (ss ++ [k]) (k + 1) (t.drop (k + 1)) ∧ w.grownBy w9 none) := ⟨(by unfold TsOwns; rw [List.length_append, List.map_append]; exact O9), HF.out, grown_trans_new (grown_trans HG5.out KL) K9 (fun x hx => (HO5.out.lt x hx).1)⟩; clear O9 K9 CL KL))
            go_roundw
            case rel => exact ⟨k + 1, ss ++ [k], by omega, by rw [List.length_append, List.length_singleton]; omega, by go_num, HFIN⟩
            case measure => simp [intOf]; omega
          · have e5 : ((a : Int) == 0) = false := by simpa using ha0
            have HF : Hid _ := HQ4.out _ HHA.out hfew ha0
            rw [← hf] at HF
            obtain ⟨g, cap', hvv, hcc, hcm, -, -⟩ := owns_head HO5.out (by omega)
            simp only [Value.slice.injEq] at hvv
            obtain ⟨rfl, -, rfl⟩ := hvv
            have HFIN : Hid (TsOwns w5 w.heap.size (.slice (some ⟨g, 0, none⟩) (f + 1) cL) (ss.take (f + 1)) ∧ startsG [] 0 t = startsG (ss.take (f + 1)) (k + 1) (t.drop (k + 1)) ∧ w.grownBy w5 none) := by
              refine ⟨?_, HF.out, G5⟩
              have := owns_take HO5.out (m := f + 1) (by omega)
              unfold TsOwns
              rw [List.length_take, Nat.min_eq_left (by omega), List.map_take]
              rw [Nat.mul_one] at this
              exact this
            have w4' : IntKind.i64.wrap ((f : Int) + 1) = ((f + 1 : Nat) : Int) := by rw [IntKind.wrap_i64]; omega
            have hle1 : ((f + 1 : Nat) : Int) ≤ (cL : Int) := by omega
            have hle2 : (0 : Int) ≤ ((f + 1 : Nat) : Int) := by omega
            have hle3 : ¬ cL < f + 1 := by omega
            have HLT : Hid ((ss.take (f + 1)).length ≤ k + 1) := by show List.length _ ≤ _; rw [List.length_take]; omega
            obtain ⟨f1, hf1⟩ : ∃ f1, f + 1 = f1 := ⟨_, rfl⟩
            rw [hf1] at HFIN HLT w4' hle1 hle2 hle3
            clear HQ1 HQ2 HQ3 HQ4 hfew ha0 HF hf hcc hcm hf1 G5
            go_wp2
            go_roundw
            case rel => exact ⟨k + 1, ss.take f1, by omega, HLT.out, by go_num, HFIN⟩
            case measure => simp [intOf]; omega
    · obtain ⟨O, hw, G⟩ := HI4.out
      have HF : Hid (startsG [] 0 t = some ss) := by
        rw [List.drop_eq_nil_of_le (by omega)] at hw
        exact hw
      clear hw HI4
      go_wp2
      go_ret2
      refine ⟨u6, ?_, ?_, G⟩
      · rw [HF.out]; rfl
      · rw [HF.out]; exact O

end Go.Proofs.Ytgoiblnddfggbaa
