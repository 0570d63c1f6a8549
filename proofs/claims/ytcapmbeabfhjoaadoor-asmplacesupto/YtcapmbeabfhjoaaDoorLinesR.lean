/-
  The document's own Lines.
-/
import Derived.Test.YtcapmbeabfhjoaaDoorNumR
namespace Go.Proofs.YtcapmbeabfhjoaaDoor
open Go.RowKit
set_option maxRecDepth 100000

/-- The lines of a text, cur the letters of the one that is under way. -/
def linesG : List UInt8 → List UInt8 → List (List UInt8)
  | cur, [] => if cur = [] then [] else [cur]
  | cur, c :: r => if c = 10 then cur :: linesG [] r else linesG (cur ++ [c]) r
def linesV (s : List UInt8) : List (List UInt8) := linesG [] s

theorem linesG_len (cur s : List UInt8) : ∀ l ∈ linesG cur s, l.length ≤ cur.length + s.length := by
  induction s generalizing cur with
  | nil => intro l hl; rw [linesG] at hl; split at hl <;> simp at hl; subst hl; simp
  | cons c r ih =>
    intro l hl
    rw [linesG] at hl
    split at hl
    · rcases List.mem_cons.1 hl with rfl | hl
      · simp
      · have := ih [] l hl; simp at *; omega
    · have := ih (cur ++ [c]) l hl; simp at *; omega

theorem linesG_many (cur s : List UInt8) : (linesG cur s).length ≤ s.length + 1 := by
  induction s generalizing cur with
  | nil => rw [linesG]; split <;> simp
  | cons c r ih =>
    rw [linesG]
    split
    · have := ih []; simp; omega
    · have := ih (cur ++ [c]); simp; omega

theorem sl_at (s : ByteArray) (j : Nat) (hj : j < s.size) : (sl s)[j]? = some s[j] := by
  rw [List.getElem?_eq_getElem (by rw [sl_len]; exact hj)]
  rfl
theorem take_grow (s : ByteArray) (g j : Nat) (hgj : g ≤ j) (hj : j < s.size) : ((sl s).drop g).take (j + 1 - g) = ((sl s).drop g).take (j - g) ++ [s[j]] := by
  rw [show j + 1 - g = (j - g) + 1 by omega, List.take_add_one, List.getElem?_drop, show g + (j - g) = j by omega, sl_at s j hj]
  rfl

theorem info9 : (Tryd.prog.info? 9).map (fun i => (i.zero, i.size, i.bytes)) = some (some (.string ⟨#[]⟩), 1, 16) := by kernel_rfl

abbrev SOwns (w : World) (base : Nat) (v : Value) (ls : List (List UInt8)) : Prop := w.ownsRow base 9 1 v ls.length (ls.map str)

set_option maxHeartbeats 2000000 in
theorem reflines_any (s : ByteArray) (w : World) (hs : s.size ≤ 1048576) :
    Calls Tryd.prog 32 #[.string s] w fun e w' => ∃ v, e = .returned v ∧ SOwns w' w.heap.size v (linesV (sl s)) ∧ w.grownBy w' none := by
  obtain ⟨i0, hi, hz0, hz1, hz2⟩ := info_parts info9
  go_enter Tryd.func32, Tryd.ntmps32
  go_wp2
  go_loopw [3, 4, 5] (fun o f i wr => ∃ (j g : Nat) (ls : List (List UInt8)), g ≤ j ∧ j ≤ s.size ∧ ls.length ≤ j ∧ i = .int .i64 j ∧ f = .int .i64 g ∧ ls ++ linesG (((sl s).drop g).take (j - g)) ((sl s).drop j) = linesV (sl s) ∧ SOwns wr w.heap.size o ls ∧ w.grownBy wr none) (fun _ _ i _ => s.size - (intOf i).toNat)
  case atStart => exact ⟨0, 0, [], Nat.le_refl _, Nat.zero_le _, Nat.le_refl _, rfl, rfl, rfl, World.ownsRow_nil _ _ _ _, World.grownBy.refl _ _⟩
  case round =>
    obtain ⟨j, g, ls, hgj, hj, hll, rfl, rfl, hls, O, G⟩ := hrel
    have HN : Hid (ls ++ linesG (((sl s).drop g).take (j - g)) ((sl s).drop j) = linesV (sl s)) := hls
    clear hls
    by_cases hlt : j < s.size
    · have hji : (j : Int) < (s.size : Int) := by omega
      have HS : Hid ((sl s).drop j = s[j] :: (sl s).drop (j + 1)) := sl_drop s j hlt
      have hb := s[j].toNat_lt
      by_cases hd : s[j] = 10
      · have hd1 : ((s[j].toNat : Int) == 10) = true := by rw [hd]; rfl
        have HE : Hid ((ls ++ [sl (s.extract g j)]) ++ linesG (((sl s).drop (j + 1)).take (j + 1 - (j + 1))) ((sl s).drop (j + 1)) = linesV (sl s)) := by
          show (ls ++ [sl (s.extract g j)]) ++ linesG (((sl s).drop (j + 1)).take (j + 1 - (j + 1))) ((sl s).drop (j + 1)) = linesV (sl s)
          rw [← HN.out, HS.out, hd, linesG, if_pos rfl, sl_extract, Nat.sub_self]
          simp
        clear hd
        have hgi : (g : Int) ≤ (j : Int) := by omega
        have hjs : (j : Int) ≤ (s.size : Int) := by omega
        have HT : Hid (Value.string (s.extract g j) = str (sl (s.extract g j))) := str_sl _
        go_wp2_with (at_builtin; refine wpList_append_cv rfl (.tmp 16) (.tmp 21) 54 rfl 9 i0 (.string ⟨#[]⟩) 1 16 Tryd.underlying54 hi hz0 hz1 hz2 rfl (by decide) w.heap.size u3 ls.length (ls.map str) rfl ?q1 (some ⟨wr.heap.size, 0, none⟩) 1 1 [.string (s.extract g j)] rfl rfl (by simp) ?q2 (by simp [Value.oneCell']) ?q3 ?q4 ?q5 ?q6)
        case q1 => exact O.alloc _
        case q2 => exact cv_lit wr _ _
        case q3 => unfold maxLen; omega
        case q4 => omega
        case q5 => have := G.size; simp; omega
        case q6 =>
          intro y2 w2 O2 K2
          have G2 : w.grownBy w2 none := grown_trans_new (grown_trans G (World.grownBy_alloc _ _ _)) K2 (fun z hz => (O.lt z hz).1)
          have O3 : SOwns w2 w.heap.size y2 (ls ++ [sl (s.extract g j)]) := by
            unfold SOwns
            rw [List.length_append, List.map_append]
            rw [HT.out] at O2
            exact O2
          clear O2 K2 O G
          go_wp2
          go_roundw
          case rel => exact ⟨j + 1, j + 1, ls ++ [sl (s.extract g j)], Nat.le_refl _, by omega, by simp; omega, by go_num, by go_num, HE.out, O3, G2⟩
          case measure => simp [intOf]; omega
      · have hd1 : ((s[j].toNat : Int) == 10) = false := by
          rw [beq_eq_false_iff_ne]
          intro h
          exact hd (UInt8.toNat_inj.1 (by simp; omega))
        have HE : Hid (ls ++ linesG (((sl s).drop g).take (j + 1 - g)) ((sl s).drop (j + 1)) = linesV (sl s)) := by
          show ls ++ linesG (((sl s).drop g).take (j + 1 - g)) ((sl s).drop (j + 1)) = linesV (sl s)
          have e : ((sl s).drop g).take (j + 1 - g) = ((sl s).drop g).take (j - g) ++ [s[j]] := by
            exact take_grow s g j hgj hlt
          rw [← HN.out, HS.out, linesG, if_neg hd, e]
        clear hd
        go_wp2
        go_roundw
        case rel => exact ⟨j + 1, g, ls, by omega, by omega, by omega, by go_num, rfl, HE.out, O, G⟩
        case measure => simp [intOf]; omega
    · obtain rfl : j = s.size := by omega
      have e0 : (sl s).drop s.size = [] := List.drop_eq_nil_of_le (by rw [sl_len]; omega)
      by_cases hg : g < s.size
      · have hgi : (g : Int) < (s.size : Int) := by omega
        have hgi2 : (g : Int) ≤ (s.size : Int) := by omega
        have HE : Hid (linesV (sl s) = ls ++ [sl (s.extract g s.size)]) := by
          show linesV (sl s) = ls ++ [sl (s.extract g s.size)]
          rw [← HN.out, e0, linesG, if_neg, sl_extract]
          intro h
          have := congrArg List.length h
          simp [sl_len] at this
          omega
        have HT : Hid (Value.string (s.extract g s.size) = str (sl (s.extract g s.size))) := str_sl _
        go_wp2_with (at_builtin; refine wpList_append_cv rfl (.tmp 29) (.tmp 33) 54 rfl 9 i0 (.string ⟨#[]⟩) 1 16 Tryd.underlying54 hi hz0 hz1 hz2 rfl (by decide) w.heap.size u3 ls.length (ls.map str) rfl ?r1 (some ⟨wr.heap.size, 0, none⟩) 1 1 [.string (s.extract g s.size)] rfl rfl (by simp) ?r2 (by simp [Value.oneCell']) ?r3 ?r4 ?r5 ?r6)
        case r1 => exact O.alloc _
        case r2 => exact cv_lit wr _ _
        case r3 => unfold maxLen; omega
        case r4 => omega
        case r5 => have := G.size; simp; omega
        case r6 =>
          intro y2 w2 O2 K2
          have G2 : w.grownBy w2 none := grown_trans_new (grown_trans G (World.grownBy_alloc _ _ _)) K2 (fun z hz => (O.lt z hz).1)
          have O3 : SOwns w2 w.heap.size y2 (ls ++ [sl (s.extract g s.size)]) := by
            unfold SOwns
            rw [List.length_append, List.map_append]
            rw [HT.out] at O2
            exact O2
          clear O2 K2 O G
          go_wp2
          go_ret
          exact ⟨_, rfl, by rw [HE.out]; exact O3, G2⟩
      · have hgi : ¬ ((g : Int) < (s.size : Int)) := by omega
        have HE : Hid (linesV (sl s) = ls) := by
          show linesV (sl s) = ls
          rw [← HN.out, e0, linesG, if_pos, List.append_nil]
          exact List.eq_nil_of_length_eq_zero (by simp; omega)
        go_wp2
        go_ret
        exact ⟨_, rfl, by rw [HE.out]; exact O, G⟩

end Go.Proofs.YtcapmbeabfhjoaaDoor
