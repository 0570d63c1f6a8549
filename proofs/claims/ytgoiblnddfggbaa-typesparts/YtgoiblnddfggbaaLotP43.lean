/-
  The document's own chapter 12: Check and Constant. What is read of an argument that is a list of bytes; how much the second form counts. What is read of an argument that is a list of nodes.
-/
import Derived.Test.YtgoiblnddfggbaaLotP41
import Derived.Test.YtgoiblnddfggbaaTyBk
import Derived.Test.YtgoiblnddfggbaaLotP18
import Derived.Test.YtgoiblnddfggbaaLotP23
import Derived.Test.YtgoiblnddfggbaaLotP2
import Derived.Test.YtgoiblnddfggbaaRows
import Derived.ProofKit
import Derived.OpenShut
import Derived.ShutString
import Derived.ChangeOld
import Derived.SizedLaws
import Derived.JoinedCond
import Derived.Test.YtgoiblnddfggbaaTyF
import Derived.Deep.Slices
namespace Go.Proofs.Ytgoiblnddfggbaa
open Go.RowKit
set_option maxRecDepth 100000

theorem joinG_fixed (x : Ng) (ps : List Pt) (h : (joinG x ps).fixed = true) : (joinG x ps).truth = false := by
  have hv : ∀ v, valG x ps = some v → truthG x.kind = false := fun v hv => by
    unfold valG at hv
    unfold truthG
    rw [decide_eq_false_iff_not]
    split at hv
    · omega
    · split at hv
      · omega
      · split at hv
        · omega
        · cases hv
  unfold joinG at h ⊢
  by_cases hf : ps.all (·.fixed) = true
  · rw [if_pos hf] at h ⊢
    cases hvv : valG x ps with
    | none => rw [hvv] at h; cases h
    | some v => exact hv v hvv
  · rw [if_neg hf] at h
    cases h
theorem step_fixed {x : Ng} {st s : List Pt} (h : stepG x st = .ok s) (hs : ∀ p ∈ st, p.fixed = true → p.truth = false) : ∀ p ∈ s, p.fixed = true → p.truth = false := by
  unfold stepG at h
  split at h
  · cases h
  · split at h
    · cases h
    · split at h
      · cases h
      · cases h
        intro p hp hf
        rcases List.mem_append.1 hp with hp | hp
        · exact hs p (List.mem_of_mem_take hp) hf
        · rw [List.mem_singleton.1 hp] at hf ⊢
          exact joinG_fixed _ _ hf
theorem walk_fixed0 : ∀ (l : List Ng) (st s : List Pt) (k : Nat), walkG st k l = .ok s → (∀ p ∈ st, p.fixed = true → p.truth = false) → ∀ p ∈ s, p.fixed = true → p.truth = false
  | [], st, s, k, h, hs => by cases h; exact hs
  | x :: l, st, s, k, h, hs => by
    simp only [walkG] at h
    cases hx : stepG x st with
    | error e => rw [hx] at h; cases h
    | ok s1 => rw [hx] at h; exact walk_fixed0 l s1 s (k + 1) h (step_fixed hx hs)
theorem walk_fixed (t : List Ng) {st : List Pt} (h : walkG [] 0 t = .ok st) (p : Pt) (hp : p ∈ st) (hf : p.fixed = true) : p.truth = false := walk_fixed0 t [] st 0 h (fun p hp => by cases hp) p hp hf

set_option maxHeartbeats 8000000 in
theorem refcheck_any (ao : Option Addr) (cap : Nat) (t : List Ng) (w : World) (C : CV w ao (flatG t)) (hm : t.length * 72 ≤ 140737488355328) (hn : ∀ x ∈ t, x.n ≤ 4294967295) :
    Calls Try.prog 6 #[.slice ao t.length cap] w fun e w' => e = .returned (checkR t) ∧ w.grownBy w' none := by
  have HC : Hid (CV w ao (flatG t)) := C
  obtain ⟨E, hE⟩ : ∃ E, checkR t = E := ⟨_, rfl⟩
  rw [hE]
  have HE : Hid (checkR t = E) := hE
  have CW := refwalk_any node12_any ao cap t w C hm hn
  clear C hE hn
  go_enter Try.func6, Try.ntmps6
  go_wp2_with fail
  refine CW.mono ?_
  rintro e w2 ⟨v, hR, O, K2⟩
  clear CW
  cases hwk : walkG [] 0 t with
  | error er =>
    obtain ⟨k, er⟩ := er
    rw [hwk] at hR
    simp only [walkR] at hR
    subst hR
    have h3 := walkG_er t [] 0 hwk
    have e1 : (er != 0) = true := by rw [bne_iff_ne]; omega
    have HF : Hid (E = .tuple #[.int .i64 (k : Int), .int .i64 er]) := by
      show E = _
      rw [← HE.out, checkR, checkG, hwk]
    clear O hwk h3
    go_wp2
    go_ret2
    exact ⟨by rw [HF.out]; rfl, K2⟩
  | ok st =>
    rw [hwk] at hR O
    simp only [walkR] at hR
    subst hR
    obtain ⟨aL, cL, rfl, CL, -⟩ := cv_of_row O
    have HG : Hid (w.grownBy w2 none) := K2
    have HCK : Hid (checkG t = if st.length ≠ 1 then (t.length, (120 : Int)) else if (st.getD 0 pt0).truth = false then (t.length - 1, 121) else match heavyG 0 0 t with | some k => (k, (126 : Int)) | none => (0, 0)) := by
      show _ = _
      rw [checkG, hwk]
      rfl
    have hlen := walkG_len t [] st 0 hwk
    simp only [walkL, List.length_nil, Nat.zero_add] at hlen CL ⊢
    by_cases h1 : st.length = 1
    · match st, h1 with
      | [p], _ =>
        obtain ⟨b, o, rfl, hc⟩ := CL.pts pqC_len (k := 0) (by simp)
        have c0 := hc 0 (by simp) 0 (.bool p.truth) rfl
        simp only [Nat.zero_mul, Nat.add_zero] at c0
        have hl1 : 1 ≤ t.length := by simpa using hlen
        rw [show [p].length = 1 from rfl]
        clear CL hc O hlen hwk
        cases hp : p.truth with
        | false =>
          rw [hp] at c0
          have HF : Hid (E = .tuple #[.int .i64 ((t.length - 1 : Nat) : Int), .int .i64 121]) := by
            show E = _
            rw [← HE.out, checkR, HCK.out]
            simp [hp]
          have q : ((t.length - 1 : Nat) : Int) = (t.length : Int) - 1 := by omega
          have w3 : IntKind.i64.wrap ((t.length : Int) - 1) = (t.length : Int) - 1 := by rw [IntKind.wrap_i64]; omega
          rw [q] at HF
          clear q HCK hp
          go_wp2
          go_ret2
          exact ⟨by rw [HF.out]; rfl, HG.out⟩
        | true =>
          rw [hp] at c0
          have HF : Hid (checkG t = match heavyG 0 0 t with | some k => (k, (126 : Int)) | none => (0, 0)) := by
            show _ = _
            rw [HCK.out]
            simp [hp]
          clear HCK hp K2
          go_wp2
          clear c0 hl1
          go_loopw [7, 8] (fun s i wr => ∃ k S : Nat, k ≤ t.length ∧ S ≤ 3000 ∧ s = .int .i64 (S : Int) ∧ i = .int .i64 k ∧ Hid (heavyG S k (t.drop k) = heavyG 0 0 t ∧ w.grownBy wr none)) (fun _ i _ => t.length - (intOf i).toNat)
          case atStart => exact ⟨0, 0, Nat.zero_le _, Nat.zero_le _, rfl, rfl, rfl, HG.out⟩
          case round =>
            obtain ⟨k, S, hk, hS, rfl, rfl, H1⟩ := hrel
            by_cases hlt : k < t.length
            · obtain ⟨b', o', rfl, hc⟩ := (HC.out.keptNone H1.out.2).ngs hlt
              have HR : Hid (wr.rangeAt b' (o' + k * 24) t[k].cells) := hc k hlt
              have HZ : Hid ((Try.prog.info? 46).map (·.size) = some t[k].cells.length) := ng_len _
              have CWG := weigh12_any t[k] wr
              have hw80 : weighG t[k] ≤ 80 := by
                have := weightG_le [t[k]]
                rw [weightG_one] at this
                simpa using this
              have HN : Hid (heavyG S k (t.drop k) = if 3000 < S + weighG t[k] then some k else heavyG (S + weighG t[k]) (k + 1) (t.drop (k + 1))) := by
                show heavyG S k (t.drop k) = _
                rw [List.drop_eq_getElem_cons hlt, heavyG]
              obtain ⟨wg, hwg⟩ : ∃ wg, weighG t[k] = wg := ⟨_, rfl⟩
              rw [hwg] at CWG HN hw80
              obtain ⟨cs, hcs⟩ : ∃ cs, t[k].cells = cs := ⟨_, rfl⟩
              rw [hcs] at HR HZ CWG
              have hl : (k : Int) < (t.length : Int) := by omega
              have z0 : (0 : Int) ≤ (k : Int) := by omega
              have w3 : IntKind.i64.wrap ((k : Int) + 1) = (k : Int) + 1 := by rw [IntKind.wrap_i64]; omega
              have w4 : IntKind.i64.wrap ((S : Int) + (wg : Int)) = (S : Int) + (wg : Int) := by rw [IntKind.wrap_i64]; omega
              clear hc hwg hcs
              go_wp2_with (refine wpList_load_mid rfl 46 (.tmp 41) rfl b' (o' + k * 24) (by simp [Act.eval]) cs _ HR.out Try.underlying46 rfl HZ.out ?_)
              refine CWG.mono ?_
              rintro e w5 ⟨rfl, K5⟩
              have G5 := grown_trans H1.out.2 K5
              clear CWG K5 HR HZ
              by_cases hgt : 3000 < S + wg
              · have t1 : (3000 : Int) < (S : Int) + (wg : Int) := by omega
                have HF2 : Hid (E = .tuple #[.int .i64 (k : Int), .int .i64 126]) := by
                  show E = _
                  have := H1.out.1
                  rw [HN.out, if_pos hgt] at this
                  rw [← HE.out, checkR, HF.out, ← this]
                clear hgt HN H1
                go_wp2
                go_ret2
                exact ⟨by rw [HF2.out]; rfl, G5⟩
              · have t1 : decide ((3000 : Int) < (S : Int) + (wg : Int)) = false := decide_eq_false (by omega)
                have HF2 : Hid (heavyG (S + wg) (k + 1) (t.drop (k + 1)) = heavyG 0 0 t ∧ w.grownBy w5 none) := by
                  refine ⟨?_, G5⟩
                  have := H1.out.1
                  rw [HN.out, if_neg hgt] at this
                  exact this
                have hle : S + wg ≤ 3000 := by omega
                clear hgt HN H1 G5
                go_wp2
                go_roundw
                case rel => exact ⟨k + 1, S + wg, by omega, hle, by simp, by go_num, HF2⟩
                case measure => simp [intOf]; omega
            · have hl' : ¬ (k : Int) < (t.length : Int) := by omega
              have HF2 : Hid (E = .tuple #[.int .i64 0, .int .i64 0]) := by
                show E = _
                have := H1.out.1
                rw [List.drop_eq_nil_of_le (by omega), heavyG] at this
                rw [← HE.out, checkR, HF.out, ← this]
                rfl
              have G5 := H1.out.2
              clear H1
              go_wp2
              go_ret2
              exact ⟨by rw [HF2.out]; rfl, G5⟩
    · have e1 : ((st.length : Int) != 1) = true := by rw [bne_iff_ne]; omega
      have HF : Hid (E = .tuple #[.int .i64 (t.length : Int), .int .i64 120]) := by
        show E = _
        rw [← HE.out, checkR, HCK.out, if_pos h1]
      clear h1 HCK hwk O CL hlen
      go_wp2
      go_ret2
      exact ⟨by rw [HF.out]; rfl, HG.out⟩

set_option maxHeartbeats 8000000 in
theorem refconst_any (ao : Option Addr) (cap : Nat) (t : List Ng) (w : World) (C : CV w ao (flatG t)) (hm : t.length * 72 ≤ 140737488355328) (hn : ∀ x ∈ t, x.n ≤ 4294967295) :
    Calls Try.prog 11 #[.slice ao t.length cap] w fun e w' => e = .returned (constR (constG t)) ∧ w.grownBy w' none := by
  obtain ⟨E, hE⟩ : ∃ E, constR (constG t) = E := ⟨_, rfl⟩
  rw [hE]
  have HE : Hid (constR (constG t) = E) := hE
  have CW := refwalk_any node12_any ao cap t w C hm hn
  clear C hE hn
  go_enter Try.func11, Try.ntmps11
  go_wp2_with fail
  refine CW.mono ?_
  rintro e w2 ⟨v, hR, O, K2⟩
  clear CW
  cases hwk : walkG [] 0 t with
  | error er =>
    obtain ⟨k, er⟩ := er
    rw [hwk] at hR
    simp only [walkR] at hR
    subst hR
    have h3 := walkG_er t [] 0 hwk
    have e1 : (er != 0) = true := by rw [bne_iff_ne]; omega
    have HF : Hid (E = .tuple #[.int .u32 0, .bool false]) := by
      show E = _
      rw [← HE.out, constG, hwk]
      rfl
    clear O hwk h3
    go_wp2
    go_ret2
    exact ⟨by rw [HF.out]; rfl, K2⟩
  | ok st =>
    rw [hwk] at hR O
    simp only [walkR] at hR
    subst hR
    obtain ⟨aL, cL, rfl, CL, -⟩ := cv_of_row O
    have HG : Hid (w.grownBy w2 none) := K2
    have HCK : Hid (constG t = if st.length ≠ 1 then none else if (st.getD 0 pt0).fixed = true then some (st.getD 0 pt0).val else none) := by
      show _ = _
      rw [constG, hwk]
    have HTF : Hid (∀ p, st = [p] → p.fixed = true → p.truth = false) := fun p hp hf => walk_fixed t hwk p (by rw [hp]; simp) hf
    simp only [walkL] at CL ⊢
    by_cases h1 : st.length = 1
    · match st, h1 with
      | [p], _ =>
        obtain ⟨b, o, rfl, hc⟩ := CL.pts pqC_len (k := 0) (by simp)
        have c0 := hc 0 (by simp) 0 (.bool p.truth) rfl
        have c1 := hc 0 (by simp) 1 (.bool p.fixed) rfl
        have c2 := hc 0 (by simp) 2 (.int .u32 (p.val : Int)) rfl
        simp only [Nat.zero_mul, Nat.add_zero] at c0 c1 c2
        rw [show [p].length = 1 from rfl]
        clear CL hc O hwk K2
        cases hf : p.fixed with
        | true =>
          have ht := HTF.out p rfl hf
          rw [ht] at c0
          rw [hf] at c1
          have HF : Hid (E = .tuple #[.int .u32 (p.val : Int), .bool true]) := by
            show E = _
            rw [← HE.out, HCK.out]
            simp [hf, constR]
          clear HCK hf ht HTF
          go_wp2
          go_ret2
          exact ⟨by rw [HF.out]; rfl, HG.out⟩
        | false =>
          rw [hf] at c1
          have HF : Hid (E = .tuple #[.int .u32 0, .bool false]) := by
            show E = _
            rw [← HE.out, HCK.out]
            simp [hf, constR]
          clear HCK hf HTF
          cases hp : p.truth with
          | true =>
            rw [hp] at c0
            clear hp
            go_wp2
            go_ret2
            exact ⟨by rw [HF.out]; rfl, HG.out⟩
          | false =>
            rw [hp] at c0
            clear hp
            go_wp2
            go_ret2
            exact ⟨by rw [HF.out]; rfl, HG.out⟩
    · have e1 : ((st.length : Int) != 1) = true := by rw [bne_iff_ne]; omega
      have HF : Hid (E = .tuple #[.int .u32 0, .bool false]) := by
        show E = _
        rw [← HE.out, HCK.out, if_pos h1]
        rfl
      clear h1 HCK hwk O CL HTF
      go_wp2
      go_ret2
      exact ⟨by rw [HF.out]; rfl, HG.out⟩

end Go.Proofs.Ytgoiblnddfggbaa

namespace Go.Proofs.Ytgoiblnddfggbaa
open Go.ChangeShapes Go.WideShapes Go.ChangeAt Go.RowKit
set_option maxRecDepth 100000

theorem own : ownKnob Try.prog.godebug = none := by kernel_rfl
theorem laidOut : laidOutB Try.prog = true := by kernel_rfl
theorem bytes5 : Try.prog.bytesOf 5 = 1 := by kernel_rfl

theorem open_bytes {H : Type} {enc : TypeId × Value → H} {P : Program} {W : World} {t e : TypeId} {d : DataW H} {ps : List MemPlace} {a : Option Addr} {len cap : Nat}
    (ht : P.underlying t = some (.slice e)) (he : P.underlying e = some (.int .u8)) (hc : P.cellsOf e = 1)
    (h : DataW.Trod enc P W 0 (fun _ => true) true t (.slice a len cap) d ps) :
    ∃ xs : List UInt8, len = xs.length ∧ Cells W a xs ∧ (a = none → cap = 0) ∧ ((d = .nil ∧ xs = []) ∨ ∃ elems spare, d = .slice elems spare ∧ xs.length ≤ elems.length + spare.length) := by
  obtain ⟨fuel, hf⟩ := h
  rcases open_ints ht he hc hf with ⟨hcs, hx⟩ | ⟨x, l, c, zs, hcs, _, hl, hm, hz, hx, hcell, hwz⟩
  · simp [Value.cells] at hcs
    obtain ⟨rfl, rfl, rfl⟩ := hcs
    simp only [Prod.mk.injEq] at hx
    exact ⟨[], rfl, ⟨fun _ => rfl, fun ad had => (by cases had)⟩, fun _ => rfl, .inl ⟨hx.1, rfl⟩⟩
  · simp [Value.cells] at hcs
    obtain ⟨rfl, rfl, rfl⟩ := hcs
    simp only [Prod.mk.injEq] at hx
    have hz' : zs.length = cap := by simpa using hz
    have hlen : ((zs.take len).map fun z => UInt8.ofNat z.toNat).length = len := by simp; omega
    refine ⟨(zs.take len).map fun z => UInt8.ofNat z.toNat, hlen.symm, ⟨fun h => (by cases h), fun ad had i hi => ?_⟩, fun h => (by cases h), .inr ⟨_, _, hx.1, ?_⟩⟩
    · obtain rfl := Option.some.inj had
      rw [hlen] at hi
      have hiz : i < zs.length := by omega
      rw [hcell i hiz]
      have hw := bounds_u8 (hwz (zs[i]) (List.getElem_mem hiz))
      simp only [List.getD_eq_getElem?_getD, List.getElem?_eq_getElem hiz, Option.getD_some, List.getElem_map, List.getElem_take, bv]
      congr 2
      simp
      omega
    · rw [hlen]
      simp [lits]
      omega

theorem bulk_one {H : Type} (d : DataW H) : 1 ≤ Rows.uptoBulk d := by
  unfold Rows.uptoBulk
  split <;> omega

theorem bulk_all {H : Type} (l : List (DataW H)) : l.length ≤ Rows.uptoBulkAll l := by
  induction l with
  | nil => exact Nat.zero_le _
  | cons x r ih =>
    have := bulk_one x
    rw [Rows.uptoBulkAll, List.length_cons]
    omega

/-- A list's places count. -/
theorem bulk_slice {H : Type} (elems spare : List (DataW H)) : elems.length + spare.length + 1 ≤ Rows.uptoBulk (.slice elems spare) := by
  have h1 := bulk_all elems
  have h2 := bulk_all spare
  rw [Rows.uptoBulk]
  omega

/-- A text's letters count. -/
theorem bulk_string {H : Type} (s : ByteArray) : Rows.uptoBulk (DataW.lit (H := H) (.string s.data.toList)) = s.size + 1 := by
  rw [Rows.uptoBulk, Array.length_toList]
  rfl

end Go.Proofs.Ytgoiblnddfggbaa

namespace Go.Proofs.Ytgoiblnddfggbaa
open Go.ChangeShapes Go.WideShapes Go.ChangeAt Go.RowKit
set_option maxRecDepth 100000

theorem bytes46 : Try.prog.bytesOf 46 = 72 := by kernel_rfl
theorem cellsNd : Try.prog.cellsOf 46 = 24 := by kernel_rfl
theorem cellsI : Try.prog.cellsOf 3 = 1 := by kernel_rfl
theorem cellsU : Try.prog.cellsOf 30 = 1 := by kernel_rfl
theorem cellsB : Try.prog.cellsOf 5 = 1 := by kernel_rfl
theorem cellsA : Try.prog.cellsOf 44 = 16 := by kernel_rfl

def byteN : Value → UInt8
  | .int _ a => UInt8.ofNat a.toNat
  | _ => 0
def intN : Value → Int
  | .int _ a => a
  | _ => 0
def ivl (cs : List Value) (i : Nat) : Int := intN (cs.getD i undef)
/-- The node that some cells are. -/
def ngOf (cs : List Value) : Ng := ⟨ivl cs 0, ivl cs 1, (ivl cs 2).toNat, (ivl cs 3).toNat, ivl cs 4, ivl cs 5, ivl cs 6, ((cs.drop 7).take 16).map byteN, ivl cs 23⟩
def Ng.ok (x : Ng) : Prop := x.n ≤ 4294967295 ∧ x.m ≤ 4294967295 ∧ x.addr.length = 16

theorem arr16N {H : Type} {enc : TypeId × Value → H} {W : World} {base : Nat} {spare : Nat → Bool} {held : Bool} {fuel : Nat} {cs : List Value} {x : DataW H × List MemPlace}
    (h : DataW.trod enc Try.prog W base spare held fuel 44 cs = some x) : cs.length = 16 ∧ ∀ i (hi : i < cs.length), cs[i] = .int .u8 ((byteN cs[i]).toNat : Int) := by
  obtain ⟨ys, m, _, rfl, hl, hlen, hf⟩ := DataW.trod_array Try.underlying44 h
  rw [cellsA] at hl
  refine ⟨hl, fun i hi => ?_⟩
  have f := hf i (by omega)
  rw [cellsB, Nat.mul_one, List.getElem?_eq_getElem (by omega), List.drop_eq_getElem_cons hi, List.take_succ_cons, List.take_zero] at f
  obtain ⟨k, e, _, w⟩ := DataW.trod_int Try.underlying5 f
  simp only [List.cons.injEq, and_true] at e
  have b := bounds_u8 w
  rw [e]
  have z : ((UInt8.ofNat k.toNat).toNat : Int) = k := by simp; omega
  simp only [byteN, z]

theorem one_int {H : Type} {enc : TypeId × Value → H} {W : World} {base : Nat} {spare : Nat → Bool} {held : Bool} {fuel : Nat} {cs : List Value} {x : DataW H × List MemPlace} (o : Nat) (ho : o < cs.length)
    (h : DataW.trod enc Try.prog W base spare held fuel 3 ((cs.drop o).take 1) = some x) : cs[o] = .int .i64 (ivl cs o) := by
  rw [List.drop_eq_getElem_cons ho, List.take_succ_cons, List.take_zero] at h
  obtain ⟨k, e, _, _⟩ := DataW.trod_int Try.underlying3 h
  simp only [List.cons.injEq, and_true] at e
  unfold ivl
  rw [List.getD_eq_getElem?_getD, List.getElem?_eq_getElem ho, e]
  rfl
theorem one_u32 {H : Type} {enc : TypeId × Value → H} {W : World} {base : Nat} {spare : Nat → Bool} {held : Bool} {fuel : Nat} {cs : List Value} {x : DataW H × List MemPlace} (o : Nat) (ho : o < cs.length)
    (h : DataW.trod enc Try.prog W base spare held fuel 30 ((cs.drop o).take 1) = some x) : cs[o] = .int .u32 ((ivl cs o).toNat : Int) ∧ (ivl cs o).toNat ≤ 4294967295 := by
  rw [List.drop_eq_getElem_cons ho, List.take_succ_cons, List.take_zero] at h
  obtain ⟨k, e, _, w⟩ := DataW.trod_int Try.underlying30 h
  simp only [List.cons.injEq, and_true] at e
  have b := bounds_u32 w
  have hi : ivl cs o = k := by
    unfold ivl
    rw [List.getD_eq_getElem?_getD, List.getElem?_eq_getElem ho, e]
    rfl
  rw [hi]
  refine ⟨?_, by omega⟩
  rw [e]
  congr 1
  omega

theorem node_cells {H : Type} {enc : TypeId × Value → H} {W : World} {base : Nat} {spare : Nat → Bool} {held : Bool} {fuel : Nat} {cs : List Value} {x : DataW H × List MemPlace} (h : DataW.trod enc Try.prog W base spare held fuel 46 cs = some x) : cs = (ngOf cs).cells ∧ (ngOf cs).ok := by
  obtain ⟨ys, n, _, rfl, hl, hlen, hf⟩ := DataW.trod_struct Try.underlying46 h
  rw [cellsNd] at hl
  have hy9 : ys.length = 9 := hlen
  have hy : ∀ i, i < 9 → ∃ y, ys[i]? = some y := fun i hi => ⟨ys[i], List.getElem?_eq_getElem (by omega)⟩
  have f0 : DataW.trod enc Try.prog W base spare held n 3 ((cs.drop 0).take (Try.prog.cellsOf 3)) = ys[0]? := hf 0 _ rfl
  have f1 : DataW.trod enc Try.prog W base spare held n 3 ((cs.drop 1).take (Try.prog.cellsOf 3)) = ys[1]? := hf 1 _ rfl
  have f2 : DataW.trod enc Try.prog W base spare held n 30 ((cs.drop 2).take (Try.prog.cellsOf 30)) = ys[2]? := hf 2 _ rfl
  have f3 : DataW.trod enc Try.prog W base spare held n 30 ((cs.drop 3).take (Try.prog.cellsOf 30)) = ys[3]? := hf 3 _ rfl
  have f4 : DataW.trod enc Try.prog W base spare held n 3 ((cs.drop 4).take (Try.prog.cellsOf 3)) = ys[4]? := hf 4 _ rfl
  have f5 : DataW.trod enc Try.prog W base spare held n 3 ((cs.drop 5).take (Try.prog.cellsOf 3)) = ys[5]? := hf 5 _ rfl
  have f6 : DataW.trod enc Try.prog W base spare held n 3 ((cs.drop 6).take (Try.prog.cellsOf 3)) = ys[6]? := hf 6 _ rfl
  have f7 : DataW.trod enc Try.prog W base spare held n 44 ((cs.drop 7).take (Try.prog.cellsOf 44)) = ys[7]? := hf 7 _ rfl
  have f8 : DataW.trod enc Try.prog W base spare held n 3 ((cs.drop 23).take (Try.prog.cellsOf 3)) = ys[8]? := hf 8 _ rfl
  rw [cellsI] at f0 f1 f4 f5 f6 f8
  rw [cellsU] at f2 f3
  rw [cellsA] at f7
  obtain ⟨y0, h0⟩ := hy 0 (by omega)
  obtain ⟨y1, h1⟩ := hy 1 (by omega)
  obtain ⟨y2, h2⟩ := hy 2 (by omega)
  obtain ⟨y3, h3⟩ := hy 3 (by omega)
  obtain ⟨y4, h4⟩ := hy 4 (by omega)
  obtain ⟨y5, h5⟩ := hy 5 (by omega)
  obtain ⟨y6, h6⟩ := hy 6 (by omega)
  obtain ⟨y7, h7⟩ := hy 7 (by omega)
  obtain ⟨y8, h8⟩ := hy 8 (by omega)
  have e0 := one_int 0 (by omega) (f0.trans h0)
  have e1 := one_int 1 (by omega) (f1.trans h1)
  have e2 := one_u32 2 (by omega) (f2.trans h2)
  have e3 := one_u32 3 (by omega) (f3.trans h3)
  have e4 := one_int 4 (by omega) (f4.trans h4)
  have e5 := one_int 5 (by omega) (f5.trans h5)
  have e6 := one_int 6 (by omega) (f6.trans h6)
  have e8 := one_int 23 (by omega) (f8.trans h8)
  obtain ⟨l7, e7⟩ := arr16N (f7.trans h7)
  have a7 : ∀ i (hi : i < 16), cs[7 + i]'(by omega) = adg (ngOf cs) i := fun i hi => by
    have := e7 i (by omega)
    rw [List.getElem_take, List.getElem_drop] at this
    rw [this]
    unfold adg ngOf
    simp only
    rw [List.getD_eq_getElem?_getD, List.getElem?_map, List.getElem?_eq_getElem (by omega), List.getElem_take, List.getElem_drop]
    rfl
  refine ⟨?_, e2.2, e3.2, by simp [ngOf, hl]⟩
  apply List.ext_getElem
  · rw [hl]; rfl
  · intro i hi1 hi2
    have hi : i < 24 := by omega
    have : i = 0 ∨ i = 1 ∨ i = 2 ∨ i = 3 ∨ i = 4 ∨ i = 5 ∨ i = 6 ∨ i = 7 ∨ i = 8 ∨ i = 9 ∨ i = 10 ∨ i = 11 ∨ i = 12 ∨ i = 13 ∨ i = 14 ∨ i = 15 ∨ i = 16 ∨ i = 17 ∨ i = 18 ∨ i = 19 ∨ i = 20 ∨ i = 21 ∨ i = 22 ∨ i = 23 := by omega
    rcases this with rfl | rfl | rfl | rfl | rfl | rfl | rfl | rfl | rfl | rfl | rfl | rfl | rfl | rfl | rfl | rfl | rfl | rfl | rfl | rfl | rfl | rfl | rfl | rfl
    · exact e0
    · exact e1
    · exact e2.1
    · exact e3.1
    · exact e4
    · exact e5
    · exact e6
    · exact a7 0 (by omega)
    · exact a7 1 (by omega)
    · exact a7 2 (by omega)
    · exact a7 3 (by omega)
    · exact a7 4 (by omega)
    · exact a7 5 (by omega)
    · exact a7 6 (by omega)
    · exact a7 7 (by omega)
    · exact a7 8 (by omega)
    · exact a7 9 (by omega)
    · exact a7 10 (by omega)
    · exact a7 11 (by omega)
    · exact a7 12 (by omega)
    · exact a7 13 (by omega)
    · exact a7 14 (by omega)
    · exact a7 15 (by omega)
    · exact e8

theorem open_nodes {H : Type} {enc : TypeId × Value → H} {W : World} {d : DataW H} {ps : List MemPlace} {a : Option Addr} {len cap : Nat}
    (h : DataW.Trod enc Try.prog W 0 (fun _ => true) true 22 (.slice a len cap) d ps) :
    ∃ xs : List Ng, len = xs.length ∧ CV W a (flatG xs) ∧ (a = none → cap = 0) ∧ (xs.length ≤ cap ∧ cap ≤ maxLen) ∧ (∀ x ∈ xs, x.ok) ∧ ((d = .nil ∧ xs = []) ∨ ∃ elems spare, d = .slice elems spare ∧ xs.length ≤ elems.length + spare.length) := by
  obtain ⟨fuel, hf⟩ := h
  rcases Go.Deep.open_slice Try.underlying22 hf with ⟨hcs, hx⟩ | ⟨x, l, c, m, n, D, Pl, hcs, _, hl, hm, hmm, hx, hcell⟩
  · simp [Value.cells] at hcs
    obtain ⟨rfl, rfl, rfl⟩ := hcs
    simp only [Prod.mk.injEq] at hx
    exact ⟨[], rfl, ⟨fun _ => rfl, fun ad had => (by cases had)⟩, fun _ => rfl, ⟨Nat.le_refl _, Nat.zero_le _⟩, (fun x hx => by cases hx), .inl ⟨hx.1, rfl⟩⟩
  · simp [Value.cells] at hcs
    obtain ⟨rfl, rfl, rfl⟩ := hcs
    simp only [Prod.mk.injEq] at hx
    simp only [if_true] at hmm
    have hmm' : m = cap := hmm
    rw [cellsNd] at hcell
    have hlen : ((List.range len).map fun i => ngOf ((W.cells? 0 (x.add (i * 24)) 24).getD [])).length = len := by simp
    refine ⟨(List.range len).map fun i => ngOf ((W.cells? 0 (x.add (i * 24)) 24).getD []), hlen.symm, ⟨fun h => (by cases h), fun ad had q hq => ?_⟩, fun h => (by cases h), ⟨by rw [hlen]; exact hl, hm⟩, fun y hy => ?_, .inr ⟨_, _, hx.1, ?_⟩⟩
    · obtain rfl := Option.some.inj had
      have hq4 : q < len * 24 := by rw [flatG_len, hlen] at hq; exact hq
      obtain ⟨cs', hcs', htr⟩ := hcell (q / 24) (by omega)
      obtain ⟨_, hl4, hget⟩ := World.cells?_some hcs'
      have hk := (node_cells htr).1
      have hj : q % 24 < 24 := Nat.mod_lt _ (by decide)
      have e1 : (x.add (q / 24 * 24)).add (q % 24) = x.add q := by
        rw [Addr.add_add]
        congr 1
        omega
      have e2 := hget (q % 24) hj
      rw [e1] at e2
      rw [e2]
      have e3 := flatG_get ((List.range len).map fun i => ngOf ((W.cells? 0 (x.add (i * 24)) 24).getD [])) (q / 24) (q % 24) (by rw [hlen]; omega) hj
      rw [show q / 24 * 24 + q % 24 = q by omega, List.getElem?_eq_getElem hq] at e3
      rw [e3]
      simp only [List.getElem_map, List.getElem_range, hcs', Option.getD_some]
      rw [← hk]
    · obtain ⟨i, hi, rfl⟩ := List.mem_map.1 hy
      rw [List.mem_range] at hi
      obtain ⟨cs', hcs', htr⟩ := hcell i (by omega)
      rw [hcs', Option.getD_some]
      exact (node_cells htr).2
    · rw [hlen]
      simp

end Go.Proofs.Ytgoiblnddfggbaa
