/-
  Package addr: Print4.
-/
import Derived.Test.YtbklagdegnflgaaDoorTab6
import Derived.Test.YtbklagdegnflgaaDoorAddrQ
import Derived.Test.YtbklagdegnflgaaDoorHex
namespace Go.Proofs.YtbklagdegnflgaaDoor
open Go.RowKit
set_option maxRecDepth 100000

/-- An element of an array. -/
theorem wpList_index_agg {P : Program} {ops : Array Oper} {rest : List Oper} {o : Oper} {a : Act} {w : World} {Q : Exit → Act → World → Prop} (hgd : o.guard = none) (ty : TypeId) (x i : Operand) (ho : o.op = .index ty x i) (y j v : Value) (hx : a.eval x = y) (hj : a.eval i = j)
    (hr : (Instr.index ty y j).run P w = .ok v w) (h : wpList P ops Q rest (a.put o.dst v) w) : wpList P ops Q (o :: rest) a w :=
  wpList_plain hgd fun _ hK => by
    unfold Oper.wp execOp
    simp only [ho, hx, hj, hr, Sem.run_bind, Sem.run_pure, Result.andThen_ok]
    exact hK _ _ h

theorem ix4 (a b c d : Value) (w : World) : (Instr.index 22 (.agg #[a, b, c, d]) (.int .i64 0)).run Tryd.prog w = .ok a w ∧ (Instr.index 22 (.agg #[a, b, c, d]) (.int .i64 1)).run Tryd.prog w = .ok b w ∧ (Instr.index 22 (.agg #[a, b, c, d]) (.int .i64 2)).run Tryd.prog w = .ok c w ∧ (Instr.index 22 (.agg #[a, b, c, d]) (.int .i64 3)).run Tryd.prog w = .ok d w :=
  ⟨by kernel_rfl, by kernel_rfl, by kernel_rfl, by kernel_rfl⟩

set_option maxRecDepth 100000 in
set_option maxHeartbeats 4000000 in
theorem print4_any (xs : List UInt8) (w : World) (h4 : xs.length = 4) (T : Tab w) :
    Calls Tryd.prog 11 #[.agg (xs.map bv).toArray] w fun e w' => e = .returned (str (print4V xs)) ∧ w.grownBy w' none := by
  obtain ⟨i0, hi, hz0, hz1, hz2⟩ := info_parts info5
  have HT : Hid (Tab w) := T
  have h3 := T.size
  clear T
  obtain ⟨a, b, c, d, rfl⟩ : ∃ a b c d, xs = [a, b, c, d] := by
    match xs, h4 with
    | [a, b, c, d], _ => exact ⟨a, b, c, d, rfl⟩
  clear h4
  rw [show (([a, b, c, d] : List UInt8).map bv).toArray = #[.int .u8 (a.toNat : Int), .int .u8 (b.toNat : Int), .int .u8 (c.toNat : Int), .int .u8 (d.toNat : Int)] from rfl]
  have HTW : Hid (∀ X : World, Ap w.heap.size w X → Tab X) := fun X h => HT.out.below h3 h.1
  have A0 : Ap w.heap.size w (w.alloc (.cells #[.int .u8 (a.toNat : Int), .int .u8 (b.toNat : Int), .int .u8 (c.toNat : Int), .int .u8 (d.toNat : Int)] 22)) := Ap.ofNone (Nat.le_refl _) (World.grownBy_alloc _ _ _)
  have da := dec_len a.toNat
  have db := dec_len b.toNat
  have dc := dec_len c.toNat
  have dd := dec_len d.toNat
  have la := a.toNat_lt
  have lb := b.toNat_lt
  have lc := c.toNat_lt
  have ld := d.toNat_lt
  have HP : Hid (print4V [a, b, c, d] = ((dec a.toNat ++ [46] ++ dec b.toNat) ++ [46] ++ dec c.toNat) ++ [46] ++ dec d.toNat) := by
    show _ = _
    simp [print4V, joinV]
  go_enter Tryd.func11, Tryd.ntmps11
  go_wp2
  go_loopw [3, 7] (fun v i wr => ∃ (j : Nat) (t : List UInt8), j ≤ 4 ∧ i = .int .i64 j ∧ Owns wr w.heap.size v t ∧ Ap w.heap.size w wr ∧ t.length ≤ 21 * j ∧ Hid (t = if j = 0 then [] else if j = 1 then dec a.toNat else if j = 2 then dec a.toNat ++ [46] ++ dec b.toNat else if j = 3 then (dec a.toNat ++ [46] ++ dec b.toNat) ++ [46] ++ dec c.toNat else ((dec a.toNat ++ [46] ++ dec b.toNat) ++ [46] ++ dec c.toNat) ++ [46] ++ dec d.toNat)) (fun _ i _ => 4 - (intOf i).toNat)
  case atStart => exact ⟨0, [], Nat.zero_le _, rfl, World.ownsRow_nil _ _ _ _, A0, Nat.le_refl _, rfl⟩
  case round =>
    clear A0
    obtain ⟨j, t, hj, rfl, O, A, htl, HTx⟩ := hrel
    have hsz := A.size
    have hj5 : j = 0 ∨ j = 1 ∨ j = 2 ∨ j = 3 ∨ j = 4 := by omega
    rcases hj5 with rfl | rfl | rfl | rfl | rfl
    · have ht : t = [] := HTx.out
      subst ht
      rw [show ((0 : Nat) : Int) = 0 from rfl]
      go_wp2_with (first | (refine wpList_index_agg rfl 22 (.tmp 6) (.tmp 7) rfl _ _ _ rfl rfl (ix4 _ _ _ _ _).1 ?_) | (go_at_call 32; refine (append_uint w.heap.size a.toNat _ [] _ (by omega) O hsz (by simp) (HTW.out _ A)).mono ?_; rintro e w2 ⟨v2, rfl, O2, A2⟩))
      go_roundw
      case rel => exact ⟨1, dec a.toNat, by omega, by go_num, O2, A.trans A2, by omega, rfl⟩
      case measure => simp [intOf]
    · obtain ⟨ap, cap, rfl, -⟩ := cv_of_row O
      rw [show ((1 : Nat) : Int) = 1 from rfl]
      go_wp2_with (first | (refine wpList_index_agg rfl 22 (.tmp 6) (.tmp 7) rfl _ _ _ rfl rfl (ix4 _ _ _ _ _).2.1 ?_) | (at_builtin; refine wpList_append_cv rfl (.tmp 13) (.tmp 14) 34 rfl 5 i0 (.int .u8 0) 1 1 Tryd.underlying34 hi hz0 hz1 hz2 rfl (by decide) w.heap.size _ t.length (t.map bv) rfl ?q1b (some ⟨wr.heap.size, 0, none⟩) 1 1 [bv 46] rfl rfl (by simp) ?q2b (by simp [Value.oneCell', bv]) ?q3b ?q4b ?q5b ?q6b))
      case q1b => exact O.alloc _
      case q2b => exact cv_lit wr _ _
      case q3b => unfold maxLen; omega
      case q4b => omega
      case q5b => first | omega | (simp; omega)
      case q6b =>
        intro v1 w1 O1 K1
        have A1 : Ap w.heap.size w w1 := (A.trans (Ap.ofNone hsz (World.grownBy_alloc _ _ none))).trans (Ap.ofOwn (O.alloc _) (by simp; omega) K1)
        have O1' : Owns w1 w.heap.size v1 (t ++ [46]) := by
          unfold Owns
          rw [List.length_append, List.map_append]
          exact O1
        have hs1 := A1.size
        clear O1 K1 O A
        go_wp2_with (go_at_call 32; refine (append_uint w.heap.size b.toNat _ (t ++ [46]) _ (by omega) O1' hs1 (by rw [List.length_append]; simp only [List.length_cons, List.length_nil]; omega) (HTW.out _ A1)).mono ?_; rintro e w2 ⟨v2, rfl, O2, A2⟩)
        go_roundw
        case rel => exact ⟨2, t ++ [46] ++ dec b.toNat, by omega, by go_num, O2, A1.trans A2, by simp only [List.length_append, List.length_cons, List.length_nil]; omega, by rw [show t = _ from HTx.out]; rfl⟩
        case measure => simp [intOf]
    · obtain ⟨ap, cap, rfl, -⟩ := cv_of_row O
      rw [show ((2 : Nat) : Int) = 2 from rfl]
      go_wp2_with (first | (refine wpList_index_agg rfl 22 (.tmp 6) (.tmp 7) rfl _ _ _ rfl rfl (ix4 _ _ _ _ _).2.2.1 ?_) | (at_builtin; refine wpList_append_cv rfl (.tmp 13) (.tmp 14) 34 rfl 5 i0 (.int .u8 0) 1 1 Tryd.underlying34 hi hz0 hz1 hz2 rfl (by decide) w.heap.size _ t.length (t.map bv) rfl ?q1c (some ⟨wr.heap.size, 0, none⟩) 1 1 [bv 46] rfl rfl (by simp) ?q2c (by simp [Value.oneCell', bv]) ?q3c ?q4c ?q5c ?q6c))
      case q1c => exact O.alloc _
      case q2c => exact cv_lit wr _ _
      case q3c => unfold maxLen; omega
      case q4c => omega
      case q5c => first | omega | (simp; omega)
      case q6c =>
        intro v1 w1 O1 K1
        have A1 : Ap w.heap.size w w1 := (A.trans (Ap.ofNone hsz (World.grownBy_alloc _ _ none))).trans (Ap.ofOwn (O.alloc _) (by simp; omega) K1)
        have O1' : Owns w1 w.heap.size v1 (t ++ [46]) := by
          unfold Owns
          rw [List.length_append, List.map_append]
          exact O1
        have hs1 := A1.size
        clear O1 K1 O A
        go_wp2_with (go_at_call 32; refine (append_uint w.heap.size c.toNat _ (t ++ [46]) _ (by omega) O1' hs1 (by rw [List.length_append]; simp only [List.length_cons, List.length_nil]; omega) (HTW.out _ A1)).mono ?_; rintro e w2 ⟨v2, rfl, O2, A2⟩)
        go_roundw
        case rel => exact ⟨3, t ++ [46] ++ dec c.toNat, by omega, by go_num, O2, A1.trans A2, by simp only [List.length_append, List.length_cons, List.length_nil]; omega, by rw [show t = _ from HTx.out]; rfl⟩
        case measure => simp [intOf]
    · obtain ⟨ap, cap, rfl, -⟩ := cv_of_row O
      rw [show ((3 : Nat) : Int) = 3 from rfl]
      go_wp2_with (first | (refine wpList_index_agg rfl 22 (.tmp 6) (.tmp 7) rfl _ _ _ rfl rfl (ix4 _ _ _ _ _).2.2.2 ?_) | (at_builtin; refine wpList_append_cv rfl (.tmp 13) (.tmp 14) 34 rfl 5 i0 (.int .u8 0) 1 1 Tryd.underlying34 hi hz0 hz1 hz2 rfl (by decide) w.heap.size _ t.length (t.map bv) rfl ?q1d (some ⟨wr.heap.size, 0, none⟩) 1 1 [bv 46] rfl rfl (by simp) ?q2d (by simp [Value.oneCell', bv]) ?q3d ?q4d ?q5d ?q6d))
      case q1d => exact O.alloc _
      case q2d => exact cv_lit wr _ _
      case q3d => unfold maxLen; omega
      case q4d => omega
      case q5d => first | omega | (simp; omega)
      case q6d =>
        intro v1 w1 O1 K1
        have A1 : Ap w.heap.size w w1 := (A.trans (Ap.ofNone hsz (World.grownBy_alloc _ _ none))).trans (Ap.ofOwn (O.alloc _) (by simp; omega) K1)
        have O1' : Owns w1 w.heap.size v1 (t ++ [46]) := by
          unfold Owns
          rw [List.length_append, List.map_append]
          exact O1
        have hs1 := A1.size
        clear O1 K1 O A
        go_wp2_with (go_at_call 32; refine (append_uint w.heap.size d.toNat _ (t ++ [46]) _ (by omega) O1' hs1 (by rw [List.length_append]; simp only [List.length_cons, List.length_nil]; omega) (HTW.out _ A1)).mono ?_; rintro e w2 ⟨v2, rfl, O2, A2⟩)
        go_roundw
        case rel => exact ⟨4, t ++ [46] ++ dec d.toNat, by omega, by go_num, O2, A1.trans A2, by simp only [List.length_append, List.length_cons, List.length_nil]; omega, by rw [show t = _ from HTx.out]; rfl⟩
        case measure => simp [intOf]
    · have hp : print4V [a, b, c, d] = t := by rw [HP.out, show t = _ from HTx.out]; rfl
      have HPT : Hid (print4V [a, b, c, d] = t) := hp
      have hcv := run_str (P := Tryd.prog) O 34 9 Tryd.underlying34 Tryd.underlying5 Tryd.underlying9
      clear hp HP HTx
      rw [show ((4 : Nat) : Int) = 4 from rfl]
      go_wp2
      go_ret
      exact ⟨by rw [HPT.out]; rfl, A.none⟩

end Go.Proofs.YtbklagdegnflgaaDoor
