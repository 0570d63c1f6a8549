/-
  Arrays of bytes in a block; the document's own groups, Parse4, Print4. Arrays of bytes held against each other.
-/
import Derived.Test.YtbdmpjnlgdahmaaGreatDoorLotP6
import Derived.Laws.Rows
import Derived.Laws.ResultCell
import Derived.Deep.DeepCutAuto
import Derived.ChangeKeysEq
namespace Go.Proofs.YtbdmpjnlgdahmaaGreatDoor
open Go.RowKit
set_option maxRecDepth 100000

/-- An array of bytes lies in a block of its own. -/
def AAt (w : World) (g t : Nat) (xs : List UInt8) : Prop := w.heap[g]? = some (.cells (xs.map bv).toArray t (0, 0))
theorem AAt.cell {w : World} {g t : Nat} {xs : List UInt8} (h : AAt w g t xs) {i : Nat} (hi : i < xs.length) : w.cell? ⟨g, i, none⟩ = some (.int .u8 (xs[i].toNat : Int)) := by
  unfold AAt at h
  rw [cell_of_row w g i _ t (0, 0) h]
  simp [hi, bv]
theorem AAt.free {w : World} {g t : Nat} {xs : List UInt8} (h : AAt w g t xs) (i : Nat) : w.frozen? ⟨g, i, none⟩ = false := by
  unfold AAt at h
  simp [World.frozen?, h]
theorem AAt.lt {w : World} {g t : Nat} {xs : List UInt8} (h : AAt w g t xs) : g < w.heap.size := by
  unfold AAt at h
  by_cases hb : g < w.heap.size
  · exact hb
  · rw [Array.getElem?_eq_none (by omega)] at h; cases h
theorem AAt.grown {w w' : World} {g t : Nat} {xs : List UInt8} {row : Option Nat} (h : AAt w g t xs) (G : w.grownBy w' row) (hr : row ≠ some g) : AAt w' g t xs := by
  have := G.block g h.lt (Ne.symm hr)
  unfold AAt at *
  rw [this, h]
theorem AAt.set {w : World} {g t : Nat} {xs : List UInt8} (h : AAt w g t xs) (i n : Nat) (hn : n < 256) : AAt (w.setCell ⟨g, i, none⟩ (.int .u8 (n : Int))) g t (xs.set i (UInt8.ofNat n)) := by
  unfold AAt at *
  have e : bv (UInt8.ofNat n) = .int .u8 (n : Int) := by
    unfold bv
    rw [UInt8.toNat_ofNat_of_lt' (by simpa using hn)]
  simp only [World.setCell, Array.getElem?_modify, h, if_true, Option.map_some]
  rw [List.map_set, e]
  simp
theorem AAt.alloc (w : World) (t : Nat) (xs : List UInt8) : AAt (w.alloc (.cells (xs.map bv).toArray t)) w.heap.size t xs := heap_alloc_new w _
theorem AAt.drew {w : World} {g t : Nat} {xs : List UInt8} (h : AAt w g t xs) : AAt w.drew g t xs := h
theorem AAt.setRow {w : World} {g t : Nat} {xs : List UInt8} (h : AAt w g t xs) (ys : List UInt8) : AAt (w.setRow g (ys.map bv).toArray) g t ys := by
  unfold AAt at *
  exact setRow_heap w g _ _ t _ h
theorem heap_setRow_ne (w : World) (g k : Nat) (cs : Array Value) (h : k ≠ g) : (w.setRow g cs).heap[k]? = w.heap[k]? := by
  simp [World.setRow, Array.getElem?_modify, Ne.symm h]
theorem grown_setRow {w W : World} {row : Option Nat} (G : w.grownBy W row) (g : Nat) (cs : Array Value) (hg : row = some g ∨ w.heap.size ≤ g) : w.grownBy (W.setRow g cs) row := by
  refine ⟨G.os, G.tape, G.output, by rw [setRow_size]; exact G.size, fun i hi hr => ?_⟩
  have : i ≠ g := by
    rintro rfl
    rcases hg with hg | hg
    · exact hr hg.symm
    · omega
  rw [heap_setRow_ne _ _ _ _ this]
  exact G.block i hi hr
theorem AAt.other {w : World} {g t k : Nat} {xs : List UInt8} (h : AAt w g t xs) (cs : Array Value) (hk : g ≠ k) : AAt (w.setRow k cs) g t xs := by
  unfold AAt at *
  rw [heap_setRow_ne _ _ _ _ hk]
  exact h
theorem AAt.setOther {w : World} {g t k i : Nat} {xs : List UInt8} (h : AAt w g t xs) (u : Value) (hk : g ≠ k) : AAt (w.setCell ⟨k, i, none⟩ u) g t xs := by
  unfold AAt at *
  simp only [World.setCell, Array.getElem?_modify, if_neg (Ne.symm hk)]
  exact h
theorem bv_all (xs : List UInt8) : (xs.map bv).toArray.all (·.oneCell') = true := by
  rw [Array.all_eq_true_iff_forall_mem]
  intro v hv
  exact bv_one xs v (by simpa using hv)
theorem bv_size (xs : List UInt8) : (xs.map bv).toArray.size = xs.length := by simp

set_option maxHeartbeats 1000000 in
theorem refgroups_any (s : ByteArray) (w : World) (hs : s.size ≤ 1048576) :
    Calls Tryz.prog 129 #[.string s] w fun e w' => ∃ v, e = .returned (.tuple #[v, .bool (groupsV (sl s)).isSome]) ∧ GOwns w' w.heap.size v ((groupsV (sl s)).getD []) ∧ w.grownBy w' none := by
  obtain ⟨i0, hi, hz0, hz1, hz2⟩ := info_parts info3
  have hl := sl_len s
  by_cases h0 : s.size = 0
  · have hn : sl s = [] := List.eq_nil_of_length_eq_zero (by omega)
    have e : groupsV (sl s) = some [] := by rw [groupsV, if_pos hn]
    rw [e]
    obtain rfl : s = ⟨#[]⟩ := by
      have := congrArg List.toArray hn
      unfold sl at this
      apply ByteArray.ext
      simpa using this
    clear hn e hl h0
    go_enter Tryz.func129, Tryz.ntmps129
    go_wp2
    go_ret2
    exact ⟨_, rfl, World.ownsRow_nil _ _ _ _, World.grownBy.refl _ _⟩
  · have hne : sl s ≠ [] := fun e => by rw [e] at hl; simp at hl; omega
    have hE : groupsV (sl s) = if 8 < (splitV 58 (sl s)).length then none else allV groupV (splitV 58 (sl s)) := by rw [groupsV, if_neg hne]
    have hm := splitG_many 58 [] (sl s)
    have hea := splitG_each 58 [] (sl s)
    have hsb : (s.toList == []) = false := by
      rw [ByteArray.toList_eq]
      exact beq_eq_false_iff_ne.2 hne
    have HM : Hid ((splitV 58 (sl s)).length ≤ 1048577) := by
      show (splitG 58 [] (sl s)).length ≤ 1048577
      omega
    have CS : Hid (Calls Tryz.prog 127 #[.string s, .int .u8 58] w fun e w' => ∃ v, e = .returned v ∧ SOwns w' w.heap.size v (splitV 58 (sl s)) ∧ w.grownBy w' none) := refsplit_any s 58 w hs
    have HEA : Hid (∀ l ∈ splitV 58 (sl s), l.length ≤ 1048576) := fun l hl' => by have := hea l hl'; simp at this; omega
    have HE : Hid (groupsV (sl s) = if 8 < (splitV 58 (sl s)).length then none else allV groupV (splitV 58 (sl s))) := hE
    clear hE hm hea hne hl h0
    generalize groupsV (sl s) = ans at *
    generalize splitV 58 (sl s) = ls at *
    go_enter Tryz.func129, Tryz.ntmps129
    go_wp2_with fail
    refine CS.out.mono ?_
    rintro e w1 ⟨v, rfl, O1, G1⟩
    obtain ⟨ao, cap, rfl, C1, -⟩ := cv_of_row O1
    have HC : Hid (CV w1 ao (ls.map str)) := C1
    clear O1 C1 CS
    go_wp2
    go_loopw [5, 6] (fun o i wr => ∃ (j : Nat) (vs : List Nat), j ≤ ls.length ∧ j ≤ 8 ∧ Hid (vs.length = j) ∧ i = .int .i64 j ∧ Hid (allV groupV (ls.take j) = some vs) ∧ GOwns wr w1.heap.size o vs ∧ w1.grownBy wr none) (fun _ i _ => ls.length - (intOf i).toNat)
    case atStart => exact ⟨0, [], Nat.zero_le _, Nat.zero_le _, rfl, rfl, rfl, World.ownsRow_nil _ _ _ _, World.grownBy.refl _ _⟩
    case round =>
      obtain ⟨j, vs, hj, hj8, HVL, rfl, HV, O, G⟩ := hrel
      have hvl8 : vs.length ≤ 8 := by have := HVL.out; omega
      by_cases hlt : j < ls.length
      · obtain ⟨b, o, rfl, hc⟩ := HC.out.strs hlt
        have hcj := G.cell (hc j hlt) (by simp)
        have hji : (j : Int) < (ls.length : Int) := by omega
        have hlj := HEA.out ls[j] (List.getElem_mem hlt)
        have HN : Hid (∀ u, groupV ls[j] = some u → allV groupV (ls.take (j + 1)) = some (vs ++ [u])) := fun u hu => by
          rw [List.take_succ_eq_append_getElem hlt, allV_snoc, HV.out, hu]
          rfl
        have HX : Hid (groupV ls[j] = none → allV groupV ls = none) := fun hu => allV_none_take hlt hu
        clear hc HV
        have CG : Hid (∀ W : World, Calls Tryz.prog 137 #[str ls[j]] W fun e w' => e = .returned (.tuple #[.int .i64 (((groupV ls[j]).getD 0 : Nat) : Int), .bool (groupV ls[j]).isSome]) ∧ W = w') := fun W => refgroup_any ⟨ls[j].toArray⟩ W
        generalize ls[j] = l at *
        cases hg : groupV l with
        | none =>
          have HAN : Hid (ans = none) := by
            show ans = none
            rw [HE.out]
            split
            · rfl
            · exact HX.out hg
          rw [hg] at CG
          go_wp2_with (go_at_call 137; refine (CG.out _).mono ?_; rintro e w' ⟨rfl, rfl⟩)
          go_ret2
          exact ⟨_, by rw [HAN.out]; rfl, by rw [HAN.out]; exact World.ownsRow_nil _ _ _ _, grown_trans G1 G⟩
        | some u =>
          rw [hg] at CG
          have hA := HN.out u hg
          have HA : Hid (allV groupV (ls.take (j + 1)) = some (vs ++ [u])) := hA
          have hu := group_lt hg
          clear hA HN HX hg
          by_cases h8 : j < 8
          · have h8' : ¬ (8 : Int) ≤ (j : Int) := by omega
            go_wp2_with (first | (go_at_call 137; refine (CG.out _).mono ?_; rintro e w' ⟨rfl, rfl⟩; dsimp only [Option.getD_some, Option.isSome_some]) | (at_builtin; refine wpList_append_cv rfl (.tmp 33) (.tmp 35) 23 rfl 3 i0 (.int .i64 0) 1 8 Tryz.underlying23 hi hz0 hz1 hz2 rfl (by decide) w1.heap.size u5 vs.length (vs.map gv) rfl ?q1 (some ⟨wr.heap.size, 0, none⟩) 1 1 [gv u] rfl rfl (by simp) ?q2 (by simp [Value.oneCell', gv]) ?q3 ?q4 ?q5 ?q6))
            case q1 => exact O.alloc _
            case q2 => exact cv_lit wr _ _
            case q3 => unfold maxLen; omega
            case q4 => omega
            case q5 => have := G.size; simp; omega
            case q6 =>
              intro y2 w2 O2 K2
              have G2 : w1.grownBy w2 none := grown_trans_new (grown_trans G (World.grownBy_alloc _ _ _)) K2 (fun z hz => (O.lt z hz).1)
              have O3 : GOwns w2 w1.heap.size y2 (vs ++ [u]) := by
                unfold GOwns
                rw [List.length_append, List.map_append]
                exact O2
              clear O2 K2 O G
              go_wp2
              go_roundw
              case rel => exact ⟨j + 1, vs ++ [u], by omega, by omega, (by have := HVL.out; simp; omega : (vs ++ [u]).length = j + 1), by go_num, HA, O3, G2⟩
              case measure => simp [intOf]; omega
          · have h8' : (8 : Int) ≤ (j : Int) := by omega
            have HAN : Hid (ans = none) := by
              show ans = none
              rw [HE.out, if_pos (by omega)]
            go_wp2_with (go_at_call 137; refine (CG.out _).mono ?_; rintro e w' ⟨rfl, rfl⟩; dsimp only [Option.getD_some, Option.isSome_some])
            go_ret2
            exact ⟨_, by rw [HAN.out]; rfl, by rw [HAN.out]; exact World.ownsRow_nil _ _ _ _, grown_trans G1 G⟩
      · obtain rfl : j = ls.length := by omega
        have HAN : Hid (ans = some vs) := by
          show ans = some vs
          rw [HE.out, if_neg (by omega), ← HV.out, List.take_length]
        go_wp2
        go_ret2
        exact ⟨_, by rw [HAN.out]; rfl, by rw [HAN.out]; exact owns_mono O G1.size, grown_trans G1 G⟩

/-- How long a text is. -/
def strLen : Value → Nat
  | .string s => s.size
  | _ => 0

/-- The answer of a reading: an array, and an error. -/
def arrV (n : Nat) (r : Option (List UInt8)) : Value := .agg ((r.getD (List.replicate n 0)).map bv).toArray
def errV (r : Option (List UInt8)) : Int := if r.isSome = true then 0 else 60

/-- A result array that lies in a block, and a second result. -/
theorem ret_arr {P : Program} {fn : Func} {p u : Tmp} {ty : TypeId} (h : fn.results = #[.cell p ty, .tmp u]) (tmps : Array Value) (w : World) (g : Nat) (xs : List UInt8) (n : Nat) (e : TypeId) (hp : tmps.getD p undef = .pointer (some ⟨g, 0, none⟩)) (A : AAt w g ty xs)
    (hu : P.underlying ty = some (.array n e)) (hi : (P.info? ty).map (·.size) = some xs.length) : (results fn tmps).run P w = .ok (.tuple #[.agg (xs.map bv).toArray, tmps.getD u undef]) w := by
  rw [results_cell_tmp h, hp]
  have := run_loadVar_row (P := P) w g ty ty (xs.map bv).toArray (0, 0) _ A hu rfl (by rw [bv_size]; exact hi)
  simp only [asAddr, Sem.run_pure, Result.andThen, this]
/-- A result array that lies in a block. -/
theorem ret_arr1 {P : Program} {fn : Func} {p : Tmp} {ty : TypeId} (h : fn.results = #[.cell p ty]) (tmps : Array Value) (w : World) (g : Nat) (xs : List UInt8) (n : Nat) (e : TypeId) (hp : tmps.getD p undef = .pointer (some ⟨g, 0, none⟩)) (A : AAt w g ty xs)
    (hu : P.underlying ty = some (.array n e)) (hi : (P.info? ty).map (·.size) = some xs.length) : (results fn tmps).run P w = .ok (.agg (xs.map bv).toArray) w :=
  results_cell_row h tmps w g ty _ (0, 0) _ hp A hu rfl (by rw [bv_size]; exact hi)

theorem size125 : (Tryz.prog.info? 125).map (·.size) = some 4 := by kernel_rfl

theorem size44 : (Tryz.prog.info? 44).map (·.size) = some 16 := by kernel_rfl

theorem set_step (vs : List UInt8) (j k : Nat) (u : UInt8) (h : vs.length = j) (hk : 0 < k) : (vs ++ List.replicate k 0).set j u = (vs ++ [u]) ++ List.replicate (k - 1) 0 := by
  obtain ⟨m, rfl⟩ : ∃ m, k = m + 1 := ⟨k - 1, by omega⟩
  subst h
  rw [List.replicate_succ, List.set_append_right _ _ (Nat.le_refl _)]
  simp

set_option maxRecDepth 100000 in
set_option maxHeartbeats 2000000 in
theorem refparse4_any (s : ByteArray) (w : World) (hs : s.size ≤ 1048576) :
    Calls Tryz.prog 114 #[.string s] w fun e w' => e = .returned (.tuple #[arrV 4 (parse4V (sl s)), .int .i64 (errV (parse4V (sl s)))]) ∧ w.grownBy w' none := by
  have hE : parse4V (sl s) = if (splitV 46 (sl s)).length = 4 then (allV (numberV 255) (splitV 46 (sl s))).map fun ns => ns.map UInt8.ofNat else none := rfl
  have hm := splitG_many 46 [] (sl s)
  have hea := splitG_each 46 [] (sl s)
  have hl := sl_len s
  have HM : Hid ((splitV 46 (sl s)).length ≤ 1048577) := by
    show (splitG 46 [] (sl s)).length ≤ 1048577
    omega
  have CS : Hid (∀ W : World, Calls Tryz.prog 127 #[.string s, .int .u8 46] W fun e w' => ∃ v, e = .returned v ∧ SOwns w' W.heap.size v (splitV 46 (sl s)) ∧ W.grownBy w' none) := fun W => refsplit_any s 46 W hs
  have HEA : Hid (∀ l ∈ splitV 46 (sl s), l.length ≤ 1048576) := fun l hl' => by have := hea l hl'; simp at this; omega
  have HE : Hid (parse4V (sl s) = if (splitV 46 (sl s)).length = 4 then (allV (numberV 255) (splitV 46 (sl s))).map fun ns => ns.map UInt8.ofNat else none) := hE
  clear hE hm hea hl
  generalize parse4V (sl s) = ans at *
  generalize splitV 46 (sl s) = ls at *
  go_enter Tryz.func114, Tryz.ntmps114
  go_upto_region 2 with fail
  have A0 := AAt.alloc w 125 (List.replicate 4 0)
  have A1 := AAt.alloc (w.alloc (.cells ((List.replicate 4 (0 : UInt8)).map bv).toArray 125)) 125 (List.replicate 4 0)
  have K1 := World.grownBy_alloc (w.alloc (.cells ((List.replicate 4 (0 : UInt8)).map bv).toArray 125)) (.cells ((List.replicate 4 (0 : UInt8)).map bv).toArray 125) none
  have A2 := A0.grown K1 (by simp)
  have G0 := grown_trans (World.grownBy_alloc w (.cells ((List.replicate 4 (0 : UInt8)).map bv).toArray 125) none) K1
  rw [show (w.alloc (.cells ((List.replicate 4 (0 : UInt8)).map bv).toArray 125)).heap.size = w.heap.size + 1 by simp] at A1
  rw [show ((List.replicate 4 (0 : UInt8)).map bv).toArray = #[.int .u8 0, .int .u8 0, .int .u8 0, .int .u8 0] from rfl] at A1 A2 G0
  obtain ⟨R, hR, hR2⟩ : ∃ R, w.heap.size = R ∧ w.heap.size ≤ R := ⟨_, rfl, Nat.le_refl _⟩
  obtain ⟨A, hA, hA2⟩ : ∃ A, w.heap.size + 1 = A ∧ w.heap.size ≤ A := ⟨_, rfl, by omega⟩
  have hRA : R ≠ A := by omega
  rw [hA] at A1 ⊢
  rw [hR] at A2 ⊢
  clear hA hR A0 K1
  generalize (w.alloc (.cells #[.int .u8 0, .int .u8 0, .int .u8 0, .int .u8 0] 125)).alloc (.cells #[.int .u8 0, .int .u8 0, .int .u8 0, .int .u8 0] 125) = wa at *
  go_wp2_with fail
  refine (CS.out _).mono ?_
  rintro e w1 ⟨v, rfl, O1, G1⟩
  obtain ⟨ao, cap, rfl, C1, -, -, -, hao, -⟩ := cv_of_row O1
  have HAO : Hid (∀ ad, ao = some ad → ad.block ≠ A) := fun ad had e => by
    have := (hao ad had).1
    have := A1.lt
    omega
  have HC : Hid (CV w1 ao (ls.map str)) := C1
  clear hao
  have B1 := A1.grown G1 (by simp)
  have B2 := A2.grown G1 (by simp)
  have GW := grown_trans G0 G1
  clear O1 C1 CS A1 A2 G0 G1 wa
  by_cases h4 : ls.length = 4
  · have h4' : ((ls.length : Int) != 4) = false := by rw [h4]; rfl
    have HE2 : Hid (ans = (allV (numberV 255) ls).map fun ns => ns.map UInt8.ofNat) := by
      show ans = _
      rw [HE.out, if_pos h4]
    have H4 : Hid (ls.length = 4) := h4
    clear HE h4
    go_wp2
    clear h4'
    go_loopw [6] (fun i wr => ∃ (j : Nat) (ns : List Nat), j ≤ 4 ∧ Hid (ns.length = j) ∧ i = .int .i64 j ∧ Hid (allV (numberV 255) (ls.take j) = some ns) ∧ Hid (AAt wr A 125 (ns.map UInt8.ofNat ++ List.replicate (4 - j) 0)) ∧ Hid (AAt wr R 125 (List.replicate 4 0)) ∧ w1.grownBy wr (some A)) (fun i _ => 4 - (intOf i).toNat)
    case atStart => exact ⟨0, [], Nat.zero_le _, rfl, rfl, rfl, B1, B2, World.grownBy.refl _ _⟩
    case round =>
      clear B1 B2
      obtain ⟨j, ns, hj, HNL, rfl, HV, BA, BR, G⟩ := hrel
      by_cases hlt : j < 4
      · have hlt' : (j : Int) < 4 := by omega
        have hl4 : j < ls.length := by have := H4.out; omega
        have hl4' : (j : Int) < (ls.length : Int) := by omega
        obtain ⟨b, o, rfl, hc⟩ := HC.out.strs hl4
        have hcj := G.cell (hc j hl4) (by intro e; exact HAO.out _ rfl (Option.some.inj e))
        have hlj := HEA.out ls[j] (List.getElem_mem hl4)
        have HN : Hid (∀ u, numberV 255 ls[j] = some u → allV (numberV 255) (ls.take (j + 1)) = some (ns ++ [u])) := fun u hu => by
          rw [List.take_succ_eq_append_getElem hl4, allV_snoc, HV.out, hu]
          rfl
        have HX : Hid (numberV 255 ls[j] = none → allV (numberV 255) ls = none) := fun hu => allV_none_take hl4 hu
        clear hc HV
        have CG : Hid (∀ W : World, Calls Tryz.prog 84 #[str ls[j], .int .u64 255] W fun e w' => e = .returned (.tuple #[.int .u64 (((numberV 255 ls[j]).getD 0 : Nat) : Int), .bool (numberV 255 ls[j]).isSome]) ∧ W = w') := fun W => refnumber_any ⟨ls[j].toArray⟩ 255 W (by rw [← sl_len, sl_str]; omega) (by decide)
        generalize ls[j] = l at *
        cases hg : numberV 255 l with
        | none =>
          have HAN : Hid (ans = none) := by
            show ans = none
            rw [HE2.out, HX.out hg]
            rfl
          rw [hg] at CG
          have BR' := BR.out
          go_wp2_with (first | (go_at_call 84; refine (CG.out _).mono ?_; rintro e w' ⟨rfl, rfl⟩) | refine wpList_store_row rfl 125 (.tmp 2) (.tmp 29) rfl R ((List.replicate 4 (0 : UInt8)).map bv).toArray rfl rfl 125 _ BR' size125 rfl (bv_all _) ?_)
          refine bodyPost_ret (ret_arr rfl _ _ R (List.replicate 4 0) 4 5 rfl (BR'.setRow (List.replicate 4 0)) Tryz.underlying125 size125) rfl ?_
          exact ⟨by rw [HAN.out]; rfl, grown_setRow (grown_trans_new GW G (fun x hx => by cases hx; exact hA2)) _ _ (.inr hR2)⟩
        | some u =>
          rw [hg] at CG
          have HA : Hid (allV (numberV 255) (ls.take (j + 1)) = some (ns ++ [u])) := HN.out u hg
          have hu : u ≤ 255 := numberV_le hg
          have hf := BA.out.free j
          have hx : wr.cell? ⟨A, j, none⟩ = some (.int .u8 ((((ns.map UInt8.ofNat ++ List.replicate (4 - j) 0) : List UInt8)[j]'(by have := HNL.out; simp; omega)).toNat : Int)) := BA.out.cell (i := j) (by have := HNL.out; simp; omega)
          generalize ((((ns.map UInt8.ofNat ++ List.replicate (4 - j) 0) : List UInt8)[j]'(by have := HNL.out; simp; omega)).toNat : Int) = old at hx
          have BA2 : Hid (AAt (wr.setCell ⟨A, j, none⟩ (.int .u8 (u : Int))) A 125 ((ns ++ [u]).map UInt8.ofNat ++ List.replicate (4 - (j + 1)) 0)) := by
            have := BA.out.set j u (by omega)
            rw [set_step _ j (4 - j) _ (by have := HNL.out; simp; omega) (by omega)] at this
            rw [List.map_append, show 4 - (j + 1) = 4 - j - 1 by omega]
            exact this
          have BR2 : Hid (AAt (wr.setCell ⟨A, j, none⟩ (.int .u8 (u : Int))) R 125 (List.replicate 4 0)) := BR.out.setOther _ hRA
          have G2 : w1.grownBy (wr.setCell ⟨A, j, none⟩ (.int .u8 (u : Int))) (some A) := grown_setCell G _ _ (.inl rfl)
          have hw : IntKind.u8.wrap (u : Int) = u := by rw [IntKind.wrap_u8]; omega
          clear HN HX hg BA BR G
          go_wp2_with (go_at_call 84; refine (CG.out _).mono ?_; rintro e w' ⟨rfl, rfl⟩; dsimp only [Option.getD_some, Option.isSome_some])
          go_roundw
          case rel => exact ⟨j + 1, ns ++ [u], by omega, (by have := HNL.out; simp; omega : (ns ++ [u]).length = j + 1), by go_num, HA, BA2, BR2, G2⟩
          case measure => simp [intOf]; omega
      · obtain rfl : j = 4 := by omega
        have HAN : Hid (ans = some (ns.map UInt8.ofNat)) := by
          show ans = _
          have := HV.out
          rw [List.take_of_length_le (by have := H4.out; omega)] at this
          rw [HE2.out, this]
          rfl
        have BA' : AAt wr A 125 (ns.map UInt8.ofNat) := by
          have := BA.out
          simpa using this
        have BR' := BR.out
        have HL4 : Hid ((ns.map UInt8.ofNat).length = 4) := by
          show (ns.map UInt8.ofNat).length = 4
          rw [List.length_map]
          exact HNL.out
        have z1 : (Tryz.prog.info? 125).map (·.size) = some ((ns.map UInt8.ofNat).map bv).toArray.size := by rw [bv_size, HL4.out]; exact size125
        have z2 : ((List.replicate 4 (0 : UInt8)).map bv).toArray.size = ((ns.map UInt8.ofNat).map bv).toArray.size := by rw [bv_size, bv_size, HL4.out]; rfl
        have z3 : (Tryz.prog.info? 125).map (·.size) = some (ns.map UInt8.ofNat).length := by rw [HL4.out]; exact size125
        have HZ : Hid ((Tryz.prog.info? 125).map (·.size) = some (ns.map UInt8.ofNat).length) := z3
        have HZ1 : Hid ((Tryz.prog.info? 125).map (·.size) = some ((ns.map UInt8.ofNat).map bv).toArray.size ∧ ((List.replicate 4 (0 : UInt8)).map bv).toArray.size = ((ns.map UInt8.ofNat).map bv).toArray.size) := ⟨z1, z2⟩
        have GF := grown_setRow (grown_trans_new GW G (fun x hx => by cases hx; exact hA2)) R ((ns.map UInt8.ofNat).map bv).toArray (.inr hR2)
        clear z1 z2 z3 HV HNL BA BR G GW
        generalize ns.map UInt8.ofNat = ys at *
        rw [show ((4 : Nat) : Int) = 4 from rfl]
        go_wp2_with (first | refine wpList_load_row rfl 125 (.tmp 4) rfl A rfl 125 (ys.map bv).toArray (0, 0) _ BA' Tryz.underlying125 rfl HZ1.out.1 ?_ | refine wpList_store_row rfl 125 (.tmp 2) (.tmp 34) rfl R (ys.map bv).toArray rfl rfl 125 _ BR' HZ1.out.1 HZ1.out.2 (bv_all _) ?_)
        refine bodyPost_ret (ret_arr rfl _ _ R ys 4 5 rfl (BR'.setRow ys) Tryz.underlying125 HZ.out) rfl ?_
        exact ⟨by rw [HAN.out]; rfl, GF⟩
  · have h4' : ((ls.length : Int) != 4) = true := by rw [bne_iff_ne]; omega
    have HAN : Hid (ans = none) := by
      show ans = none
      rw [HE.out, if_neg h4]
    have hz : ((List.replicate 4 (0 : UInt8)).map bv).toArray.size = 4 := rfl
    go_wp2_with (first | refine wpList_load_row rfl 125 (.tmp 4) rfl A rfl 125 _ (0, 0) _ B1 Tryz.underlying125 rfl size125 ?_ | refine wpList_store_row rfl 125 (.tmp 2) (.tmp 14) rfl R _ rfl rfl 125 _ B2 size125 rfl (bv_all _) ?_)
    refine bodyPost_ret (ret_arr rfl _ _ R (List.replicate 4 0) 4 5 rfl (B2.setRow (List.replicate 4 0)) Tryz.underlying125 size125) rfl ?_
    exact ⟨by rw [HAN.out]; rfl, grown_setRow GW _ _ (.inr hR2)⟩

end Go.Proofs.YtbdmpjnlgdahmaaGreatDoor

namespace Go.Proofs.YtbdmpjnlgdahmaaGreatDoor
open Go.RowKit
set_option maxRecDepth 100000

theorem items_bytes {P : Program} (d : Nat) (e : TypeId) (he : P.underlying e = some (.int .u8)) (hk : P.plainKey e = true) (xs ys : List UInt8) (w : World) (hl : xs.length = ys.length) :
    ∀ (m k : Nat), k + m = xs.length → (Op.eqItems (d + 1) e 1 (xs.map bv).toArray (ys.map bv).toArray (List.range' k m)).run P w = .ok (decide (xs.drop k = ys.drop k)) w
  | 0, k, h => by
    have e1 : xs.drop k = ys.drop k := by rw [List.drop_eq_nil_of_le (by omega), List.drop_eq_nil_of_le (by omega)]
    simp only [List.range'_zero, Op.eqItems, Sem.run_pure]
    rw [decide_eq_true e1]
  | m + 1, k, h => by
    have hx : k < xs.length := by omega
    have hy : k < ys.length := by omega
    have p1 := run_part_plain (P := P) w hk (xs := (xs.map bv).toArray) (off := k * 1) (v := bv xs[k]) (by simp [hx])
    have p2 := run_part_plain (P := P) w hk (xs := (ys.map bv).toArray) (off := k * 1) (v := bv ys[k]) (by simp [hy])
    have p3 : (Op.equalIn (d + 1) e (bv xs[k]) (bv ys[k])).run P w = .ok ((xs[k].toNat : Int) == (ys[k].toNat : Int)) w := run_equalIn_int w d e .u8 .u8 _ _ he
    have ih := items_bytes d e he hk xs ys w hl m (k + 1) (by omega)
    rw [List.range'_succ]
    simp only [Op.eqItems, Sem.run_bind, p1, p2, p3, Result.andThen_ok]
    rw [List.drop_eq_getElem_cons hx, List.drop_eq_getElem_cons hy]
    by_cases hq : xs[k] = ys[k]
    · rw [hq, show ((ys[k].toNat : Int) == (ys[k].toNat : Int)) = true by simp]
      simp only [Bool.not_true, Bool.false_eq_true, if_false]
      rw [ih]
      simp only [List.cons.injEq, true_and]
    · have : ((xs[k].toNat : Int) == (ys[k].toNat : Int)) = false := by
        rw [beq_eq_false_iff_ne]
        intro e
        exact hq (UInt8.toNat_inj.1 (by omega))
      rw [this]
      simp only [Bool.not_false, if_true, Sem.run_pure]
      rw [decide_eq_false (fun e => hq (List.cons.inj e).1)]

theorem eq_bytes {P : Program} {t e : TypeId} {n : Nat} {i : TypeInfo} (hu : P.underlying t = some (.array n e)) (hi : P.info? e = some i) (he : P.underlying e = some (.int .u8)) (hk : P.plainKey e = true) (hc : P.cellsOf e = 1) (xs ys : List UInt8) (hx : xs.length = n) (hy : ys.length = n) (w : World) :
    (Op.equalIn 10000 t (.agg (xs.map bv).toArray) (.agg (ys.map bv).toArray)).run P w = .ok (decide (xs = ys)) w := by
  rw [show (10000 : Nat) = 9999 + 1 from rfl, run_equalIn_array w 9999 _ _ hu hi, hc, List.range_eq_range', show (9999 : Nat) = 9998 + 1 from rfl, items_bytes 9998 e he hk xs ys w (by omega) n 0 (by omega)]
  rfl

theorem eq125 (xs ys : List UInt8) (hx : xs.length = 4) (hy : ys.length = 4) (w : World) : (Op.equalIn 10000 125 (.agg (xs.map bv).toArray) (.agg (ys.map bv).toArray)).run Tryz.prog w = .ok (decide (xs = ys)) w := by
  obtain ⟨i0, hi, -⟩ := info_parts info5
  exact eq_bytes Tryz.underlying125 hi Tryz.underlying5 (by kernel_rfl) (by kernel_rfl) xs ys hx hy w

theorem eq44 (xs ys : List UInt8) (hx : xs.length = 16) (hy : ys.length = 16) (w : World) : (Op.equalIn 10000 44 (.agg (xs.map bv).toArray) (.agg (ys.map bv).toArray)).run Tryz.prog w = .ok (decide (xs = ys)) w := by
  obtain ⟨i0, hi, -⟩ := info_parts info5
  exact eq_bytes Tryz.underlying44 hi Tryz.underlying5 (by kernel_rfl) (by kernel_rfl) xs ys hx hy w

end Go.Proofs.YtbdmpjnlgdahmaaGreatDoor
