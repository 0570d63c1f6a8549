/-
  The document's own Read: the instruction whose text a line is.
-/
import Derived.Test.YtcapmbeabfhjoaaDoorNumR
namespace Go.Proofs.YtcapmbeabfhjoaaDoor
open Go.RowKit
set_option maxRecDepth 100000

/-- What a line may say, by its numbers: as a raw one; as one of a known code. -/
def candR (ns : List Nat) : List In := if ns.length = 4 ∧ ns.getD 0 0 < 65536 ∧ ns.getD 1 0 < 256 ∧ ns.getD 2 0 < 256 then [mkI (ns.getD 0 0) (ns.getD 1 0) (ns.getD 2 0) (ns.getD 3 0)] else []
def nextK (c : Nat) : Nat := if c = 177 then 1 else 0
def nextJ (c : Nat) : Nat := nextK c + if usesK c = true then 1 else 0
def candC (ns : List Nat) (c : Nat) : List In :=
  if usesJ c = true then
    (if 255 < ns.getD (nextJ c) 0 ∨ 255 < ns.getD (nextJ c + 1) 0 then [] else [mkI c (ns.getD (nextJ c) 0) (ns.getD (nextJ c + 1) 0) (if usesK c = true then ns.getD (nextK c) 0 else 0)])
  else [mkI c 0 0 (if usesK c = true then ns.getD (nextK c) 0 else 0)]
def hit (s : List UInt8) (x : In) : Bool := lineV x == s
/-- The instruction whose text s is. -/
def readV (s : List UInt8) : Option In := (candR (numsR s) ++ codesL.flatMap (candC (numsR s))).find? (hit s)

theorem read_sound {s : List UInt8} {x : In} (h : readV s = some x) : lineV x = s := by
  have := List.find?_some h
  simpa [hit] using this

theorem cand_self (x : In) : x ∈ candR (numsR (lineV x)) ++ codesL.flatMap (candC (numsR (lineV x))) := by
  obtain ⟨h1, h2, h3, h4⟩ := x.bounds
  have hn : numsR (lineV x) = numsOf x.code.toNat x.jt.toNat x.jf.toNat x.k.toNat := line_nums _ _ _ _ h1 h2 h3 h4
  have he := mkI_eta x
  rw [hn]
  generalize x.code.toNat = c at *
  generalize x.jt.toNat = t at *
  generalize x.jf.toNat = f at *
  generalize x.k.toNat = k at *
  subst he
  clear hn
  cases hr : rawB c t f k with
  | true =>
    refine List.mem_append_left _ ?_
    have e : numsOf c t f k = [c, t, f, k] := by simp [numsOf, hr]
    rw [e]
    simp [candR]
    omega
  | false =>
    obtain ⟨k1, k2, k3⟩ := form_parts hr
    refine List.mem_append_right _ (List.mem_flatMap.2 ⟨c, codesL_mem k1, ?_⟩)
    have e0 : ∀ n : Nat, ((n : Int) != 0) = false ↔ n = 0 := fun n => by rw [bne_eq_false_iff_eq]; omega
    simp only [e0] at k2 k3
    by_cases h177 : c = 177
    · subst h177
      have hu : usesK ((177 : Nat) : Int) = true := by decide +kernel
      have hj : usesJ ((177 : Nat) : Int) = false := by decide +kernel
      simp only [hu, hj, Bool.false_eq_true, false_or, true_and] at k2 k3
      obtain ⟨rfl, rfl⟩ := k3
      have hu2 : usesK 177 = true := hu
      have hj2 : usesJ 177 = false := hj
      have hr2 : rawB 177 0 0 k = false := hr
      simp [numsOf, hr2, hu2, hj2, candC, nextK]
    · cases hu : usesK c <;> cases hj : usesJ c <;> simp only [hu, hj, Bool.false_eq_true, reduceCtorEq, false_or, true_and, false_and, or_false] at k2 k3
      · obtain ⟨rfl, rfl⟩ := k3; subst k2
        simp [hu, hj, candC]
      · subst k2
        simp [numsOf, hr, hu, hj, candC, nextJ, nextK, h177]
        omega
      · obtain ⟨rfl, rfl⟩ := k3
        simp [numsOf, hr, hu, hj, candC, nextK, h177]
      · simp [numsOf, hr, hu, hj, candC, nextJ, nextK, h177]
        omega

/-- P3.4: a text is that of an instruction just if reading tells it. -/
theorem read_line (x : In) : readV (lineV x) = some x := by
  cases h : readV (lineV x) with
  | none =>
    have := List.find?_eq_none.1 h x (cand_self x)
    simp [hit] at this
  | some y => rw [lineV_inj (read_sound h)]

theorem read_iff {s : List UInt8} {x : In} : readV s = some x ↔ lineV x = s := ⟨read_sound, fun h => by rw [← h]; exact read_line x⟩

set_option maxHeartbeats 400000 in
theorem refat_any (a : Option Addr) (ca : Nat) (ns : List Nat) (i : Nat) (w : World) (ha : CV w a (ns.map nv)) (hi : i ≤ 100) :
    Calls Tryd.prog 37 #[.slice a ns.length ca, .int .i64 i] w fun e w' => e = .returned (.int .u32 ((ns.getD i 0 : Nat) : Int)) ∧ w = w' := by
  by_cases h : i < ns.length
  · obtain ⟨b, o, rfl, hc⟩ := ha.addr (k := i) (by simpa using h)
    have c0 := hc i (by simpa using h)
    simp only [List.getElem_map, nv] at c0
    have e : ns.getD i 0 = ns[i] := by simp [h]
    rw [e]
    have hz : ¬ ((i : Int) < 0) := by omega
    have hlt : ¬ ((ns.length : Int) ≤ (i : Int)) := by omega
    clear hc ha
    go_enter Tryd.func37, Tryd.ntmps37
    go_wp2
    go_ret
    exact ⟨rfl, rfl⟩
  · have e : ns.getD i 0 = 0 := by simp [Nat.not_lt.1 h]
    rw [e]
    have hlt : (ns.length : Int) ≤ (i : Int) := by omega
    clear ha
    go_enter Tryd.func37, Tryd.ntmps37
    go_wp2
    go_ret
    exact ⟨rfl, rfl⟩

/-- A code as a cell. -/
def hv (n : Nat) : Value := .int .u16 (n : Int)
theorem info22 : (Tryd.prog.info? 22).map (fun i => (i.zero, i.size, i.bytes)) = some (some (.int .u16 0), 1, 2) := by kernel_rfl
abbrev HOwns (w : World) (base : Nat) (v : Value) (ns : List Nat) : Prop := w.ownsRow base 22 1 v ns.length (ns.map hv)
def codesTo (i : Nat) : List Nat := (List.range i).filter fun c => knownB c
theorem codesTo_len (i : Nat) : (codesTo i).length ≤ i := by
  have := List.length_filter_le (fun c : Nat => knownB c) (List.range i)
  simpa [codesTo] using this
theorem codesTo_yes {i : Nat} (h : knownB i = true) : codesTo (i + 1) = codesTo i ++ [i] := by simp [codesTo, List.range_succ, h]
theorem codesTo_no {i : Nat} (h : knownB i = false) : codesTo (i + 1) = codesTo i := by simp [codesTo, List.range_succ, h]

set_option maxRecDepth 100000 in
set_option maxHeartbeats 1000000 in
theorem refcodes_any (w : World) :
    Calls Tryd.prog 38 #[] w fun e w' => ∃ v, e = .returned v ∧ HOwns w' w.heap.size v codesL ∧ w.grownBy w' none := by
  obtain ⟨i0, hi, hz0, hz1, hz2⟩ := info_parts info22
  go_enter Tryd.func38, Tryd.ntmps38
  go_wp2
  go_loopw [1, 2] (fun o i wr => ∃ k : Nat, k ≤ 256 ∧ i = .int .i64 k ∧ HOwns wr w.heap.size o (codesTo k) ∧ w.grownBy wr none) (fun _ i _ => 256 - (intOf i).toNat)
  case atStart => exact ⟨0, Nat.zero_le _, rfl, World.ownsRow_nil _ _ _ _, World.grownBy.refl _ _⟩
  case round =>
    obtain ⟨k, hk, rfl, O, G⟩ := hrel
    have hl := codesTo_len k
    by_cases hlt : k < 256
    · cases hkn : knownB k with
      | false =>
        have HC : Hid (codesTo (k + 1) = codesTo k) := codesTo_no hkn
        go_wp2_with (go_at_call 25; refine (refknown_any _ _).mono ?_; rintro e w' ⟨rfl, rfl⟩)
        go_roundw
        case rel => exact ⟨k + 1, by omega, by go_num, by rw [HC.out]; exact O, G⟩
        case measure => simp [intOf]; omega
      | true =>
        have HC : Hid (codesTo (k + 1) = codesTo k ++ [k]) := codesTo_yes hkn
        go_wp2_with (first | (go_at_call 25; refine (refknown_any _ _).mono ?_; rintro e w' ⟨rfl, rfl⟩) | (at_builtin; refine wpList_append_cv rfl (.tmp 10) (.tmp 13) 64 rfl 22 i0 (.int .u16 0) 1 2 Tryd.underlying64 hi hz0 hz1 hz2 rfl (by decide) w.heap.size u1 (codesTo k).length ((codesTo k).map hv) rfl ?q1 (some ⟨wr.heap.size, 0, none⟩) 1 1 [hv k] rfl rfl (by simp) ?q2 (by simp [hv, Value.oneCell']) ?q3 ?q4 ?q5 ?q6))
        case q1 => exact O.alloc _
        case q2 => exact cv_lit wr _ _
        case q3 => unfold maxLen; omega
        case q4 => omega
        case q5 => have := G.size; simp; omega
        case q6 =>
          intro y2 w2 O2 K2
          have G2 : w.grownBy w2 none := grown_trans_new (grown_trans G (World.grownBy_alloc _ _ _)) K2 (fun z hz => (O.lt z hz).1)
          have O3 : HOwns w2 w.heap.size y2 (codesTo (k + 1)) := by
            unfold HOwns
            rw [HC.out, List.length_append, List.map_append]
            exact O2
          clear O2 K2 O G
          go_wp2
          go_roundw
          case rel => exact ⟨k + 1, by omega, by go_num, O3, G2⟩
          case measure => simp [intOf]; omega
    · obtain rfl : k = 256 := by omega
      go_wp2
      go_ret
      exact ⟨_, rfl, O, G⟩

end Go.Proofs.YtcapmbeabfhjoaaDoor
