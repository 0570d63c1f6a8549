/-
  Package insn: lay and Encode.
-/
import Derived.Test.YtoimhggpblkcgaaEncR
import Derived.Handy
namespace Go.Proofs.Ytoimhggpblkcgaa
open Go.RowKit

/-- A number's lowest l bytes, the high one first; the bytes of a row of fields (how many bytes, the number). -/
def layF (v : Nat) : Nat → List UInt8
  | 0 => []
  | l + 1 => UInt8.ofNat (shr8 v l) :: layF v l
def layS (fs : List (Nat × Nat)) : List UInt8 := fs.flatMap fun f => layF f.2 f.1

theorem layF_len (v l : Nat) : (layF v l).length = l := by
  induction l with
  | zero => rfl
  | succ l ih => simp [layF, ih]

def fcells (f : Nat × Nat) : List Value := [.int .i64 (f.1 : Int), .int .u32 (f.2 : Int)]
def flatF (fs : List (Nat × Nat)) : List Value := fs.flatMap fcells

theorem flatF_len (fs : List (Nat × Nat)) : (flatF fs).length = fs.length * 2 := by
  induction fs with
  | nil => rfl
  | cons x xs ih => simp only [flatF, List.flatMap_cons, List.length_append, List.length_cons] at *; rw [ih]; simp [fcells]; omega

theorem flatF_get (fs : List (Nat × Nat)) (i j : Nat) (hi : i < fs.length) (hj : j < 2) : (flatF fs)[i * 2 + j]? = (fcells fs[i])[j]? := by
  induction fs generalizing i with
  | nil => simp at hi
  | cons x xs ih =>
    have e : flatF (x :: xs) = fcells x ++ flatF xs := rfl
    have hl : (fcells x).length = 2 := rfl
    rw [e]
    cases i with
    | zero => rw [List.getElem?_append_left (by omega)]; simp
    | succ i =>
      rw [List.getElem?_append_right (by omega), hl, show (i + 1) * 2 + j - 2 = i * 2 + j by omega, ih i (by simpa using hi)]
      simp

theorem layS_succ (fs : List (Nat × Nat)) (k : Nat) (hk : k < fs.length) : layS (fs.take (k + 1)) = layS (fs.take k) ++ layF fs[k].2 fs[k].1 := by
  rw [List.take_succ_eq_append_getElem hk]; simp only [layS, List.flatMap_append, List.flatMap_cons, List.flatMap_nil, List.append_nil]

theorem layS_len_le (fs : List (Nat × Nat)) (h : ∀ f ∈ fs, f.1 ≤ 4) : (layS fs).length ≤ 4 * fs.length := by
  induction fs with
  | nil => simp [layS]
  | cons f fs ih =>
    have h1 := h f (List.mem_cons_self ..)
    have h2 := ih (fun g hg => h g (List.mem_cons_of_mem _ hg))
    simp only [layS, List.flatMap_cons, List.length_append, List.length_cons, layF_len] at *
    omega

/-- A block that is no row of bytes stays where one is written. -/
theorem blk_kept {w w' : World} {base b n : Nat} {v : Value} {vs : List Value} {cur : Array Value} (h : w.heap[b]? = some (.cells cur 54 (0, 0))) (O : w.ownsRow base 5 1 v n vs) (K : w.grownBy w' v.ownBlock) : w'.heap[b]? = some (.cells cur 54 (0, 0)) := by
  rw [K.block b (Array.getElem?_eq_some_iff.1 h).1 ?_]
  · exact h
  · intro e
    rcases O.2 with ⟨rfl, hn⟩ | ⟨g, cap, cur2, rfl, hb, hg, hc, hm, hs, ht⟩
    · cases e
    · simp only [Value.ownBlock, Option.some.injEq] at e
      subst e
      rw [h] at hg
      simp at hg

theorem blk_cell {w : World} {b t : Nat} {cur : Array Value} (h : w.heap[b]? = some (.cells cur t (0, 0))) (i : Nat) : w.cell? ⟨b, i, none⟩ = cur[i]? := cell_of_row w b i cur _ _ h

theorem blk_alloc {w : World} {b t : Nat} {cur : Array Value} (h : w.heap[b]? = some (.cells cur t (0, 0))) (o : Obj) : (w.alloc o).heap[b]? = some (.cells cur t (0, 0)) := by
  rw [heap_alloc_old w _ (Array.getElem?_eq_some_iff.1 h).1]; exact h

theorem cells_one (w : World) (n : Int) (c : UInt8) (h : n = (c.toNat : Int)) : Cells (w.alloc (.cells #[.int .u8 n] 5)) (some ⟨w.heap.size, 0, none⟩) [c] := by
  subst h
  exact cells_lit w [c]

theorem cells_at (x l : Nat) (n : Int) (h : n = ((shr8 x l % 256 : Nat) : Int)) : n = ((UInt8.ofNat (shr8 x l)).toNat : Int) := by
  rw [h]; simp

theorem layF_step (v l : Nat) (cur es : List UInt8) (s : Nat) (h : cur ++ layF v (l + 1) = es ++ layF v s) : (cur ++ [UInt8.ofNat (shr8 v l)]) ++ layF v l = es ++ layF v s := by
  rw [← h]; simp [layF]

set_option maxHeartbeats 2000000 in
theorem lay_any (b : Nat) (v : Value) (es : List UInt8) (fs : List (Nat × Nat)) (cap : Nat) (w0 w : World) (G : w0.grownBy w none) (O : Owns w w0.heap.size v es)
    (hF : w.heap[b]? = some (.cells (flatF fs).toArray 54 (0, 0))) (hs : ∀ f ∈ fs, f.1 ≤ 4 ∧ f.2 ≤ 4294967295) (hn : es.length ≤ 65536) (hfs : fs.length ≤ 8) :
    Calls Try.prog 36 #[v, .slice (some ⟨b, 0, none⟩) fs.length cap] w fun e w' => ∃ v', e = .returned v' ∧ Owns w' w0.heap.size v' (es ++ layS fs) ∧ w0.grownBy w' none := by
  obtain ⟨i0, hi, hz0, hz1, hz2⟩ := info_parts info5
  have HS : Hid (∀ f ∈ fs, f.1 ≤ 4 ∧ f.2 ≤ 4294967295) := hs
  clear hs
  go_enter Try.func36, Try.ntmps36
  go_wp2
  go_loopw [0, 10] (fun o i wr => ∃ k : Nat, k ≤ fs.length ∧ i = .int .i64 k ∧ Owns wr w0.heap.size o (es ++ layS (fs.take k)) ∧ w0.grownBy wr none ∧ wr.heap[b]? = some (.cells (flatF fs).toArray 54 (0, 0))) (fun _ i _ => fs.length - (intOf i).toNat)
  case atStart => exact ⟨0, Nat.zero_le _, rfl, by simpa [layS] using O, G, hF⟩
  case round =>
    clear O G hF
    obtain ⟨k, hk, rfl, O, G, hF⟩ := hrel
    by_cases hlt : k < fs.length
    · have hc0 : wr.cell? ⟨b, k * 2, none⟩ = some (.int .i64 (fs[k].1 : Int)) := by
        rw [blk_cell hF, List.getElem?_toArray]; exact flatF_get fs k 0 hlt (by omega)
      have hc1 : wr.cell? ⟨b, k * 2 + 1, none⟩ = some (.int .u32 (fs[k].2 : Int)) := by
        rw [blk_cell hF, List.getElem?_toArray]; exact flatF_get fs k 1 hlt (by omega)
      obtain ⟨hs1, hs2⟩ := HS.out fs[k] (List.getElem_mem hlt)
      have HJ : Hid (layS (fs.take (k + 1)) = layS (fs.take k) ++ layF fs[k].2 fs[k].1) := layS_succ fs k hlt
      generalize fs[k] = f at *
      obtain ⟨s, x⟩ := f
      simp only at *
      have O1 : Owns (wr.alloc (.cells #[.int .i64 (s : Int), .int .u32 (x : Int)] 54)) w0.heap.size u0 (es ++ layS (fs.take k)) := O.alloc _
      have G1 : w0.grownBy (wr.alloc (.cells #[.int .i64 (s : Int), .int .u32 (x : Int)] 54)) none := grown_trans G (World.grownBy_alloc _ _ _)
      have F1 : (wr.alloc (.cells #[.int .i64 (s : Int), .int .u32 (x : Int)] 54)).heap[b]? = some (.cells (flatF fs).toArray 54 (0, 0)) := by
        rw [heap_alloc_old wr _ (Array.getElem?_eq_some_iff.1 hF).1]; exact hF
      have F2 : (wr.alloc (.cells #[.int .i64 (s : Int), .int .u32 (x : Int)] 54)).heap[wr.heap.size]? = some (.cells #[.int .i64 (s : Int), .int .u32 (x : Int)] 54 (0, 0)) := heap_alloc_new wr _
      have HE : Hid ((es ++ layS (fs.take k)).length ≤ 65536 + 32) := by
        show (es ++ layS (fs.take k)).length ≤ 65536 + 32
        have := layS_len_le (fs.take k) (fun f hf => (HS.out f (List.mem_of_mem_take hf)).1)
        have h8 : (fs.take k).length ≤ 8 := by rw [List.length_take]; omega
        rw [List.length_append]; omega
      go_wp2
      clear hc0 hc1 O G hF
      generalize hE : es ++ layS (fs.take k) = E at *
      generalize wr.alloc (.cells #[.int .i64 (s : Int), .int .u32 (x : Int)] 54) = w1 at *
      generalize wr.heap.size = fb at *
      have HEE : Hid (es ++ layS (fs.take k) = E) := hE
      clear hE
      go_loopw [0, 7] (fun o i wi => ∃ (l : Nat) (cur : List UInt8), l ≤ s ∧ i = .int .i64 ((l : Int) - 1) ∧ Owns wi w0.heap.size o cur ∧ cur ++ layF x l = E ++ layF x s ∧ w0.grownBy wi none ∧ wi.heap[b]? = some (.cells (flatF fs).toArray 54 (0, 0)) ∧ wi.heap[fb]? = some (.cells #[.int .i64 (s : Int), .int .u32 (x : Int)] 54 (0, 0))) (fun _ i _ => (intOf i + 1).toNat)
      case atStart => exact ⟨s, E, Nat.le_refl _, rfl, O1, rfl, G1, F1, F2⟩
      case round =>
        clear O1 G1 F1 F2
        obtain ⟨l, cur, hl, rfl, O, hcur, G, F1, F2⟩ := hrel
        have HC : Hid (cur ++ layF x l = E ++ layF x s) := hcur
        have HCl : Hid (cur.length ≤ 65536 + 64) := by
          show cur.length ≤ 65536 + 64
          have := congrArg List.length hcur
          have := HE.out
          simp only [List.length_append, layF_len] at *
          omega
        clear hcur
        by_cases hl0 : l = 0
        · subst hl0
          have e1 : cur = es ++ layS (fs.take (k + 1)) := by
            have := HC.out
            rw [HJ.out, ← List.append_assoc, HEE.out, ← this]
            simp [layF]
          subst e1
          go_wp2
          go_roundw
          case rel => exact ⟨k + 1, by omega, by go_num, O, G, F1⟩
          case measure => simp [intOf]; omega
        · obtain ⟨l, rfl⟩ : ∃ m, l = m + 1 := ⟨l - 1, by omega⟩
          have hx : wr.cell? ⟨fb, 1, none⟩ = some (.int .u32 (x : Int)) := by rw [blk_cell F2]; rfl
          have hl3 : l = 0 ∨ l = 1 ∨ l = 2 ∨ l = 3 := by omega
          rcases hl3 with rfl | rfl | rfl | rfl
          · go_wp2_with (at_builtin; refine wpList_append_rd rfl (.tmp 21) (.tmp 28) 29 rfl i0 Try.underlying29 hi hz0 hz1 hz2 w0.heap.size u0 cur rfl ?q1 (some ⟨wr.heap.size, 0, none⟩) 1 [UInt8.ofNat (shr8 x 0)] rfl (by simp) ?q2 ?q3 ?q4 ?q5)
            case q1 => exact O.alloc _
            case q2 => exact cells_one wr _ _ (cells_at x 0 _ (by first | (simp [shr8]; done) | (simp [shr8]; omega)))
            case q3 => have := HCl.out; simp; omega
            case q4 => have := G.size; simp; omega
            case q5 =>
              intro y2 w2 O2 K2
              have G2 : w0.grownBy w2 none := grown_trans_new (grown_trans G (World.grownBy_alloc _ _ _)) K2 (fun z hz => (O.lt z hz).1)
              have F3 := blk_kept (blk_alloc F1 _) (O.alloc _) K2
              have F4 := blk_kept (blk_alloc F2 _) (O.alloc _) K2
              have HC2 := layF_step _ _ _ _ _ HC.out
              clear K2 O G F1 F2 hx HC
              go_wp2
              go_roundw
              case rel => exact ⟨0, _, by omega, by go_num, O2, HC2, G2, F3, F4⟩
              case measure => simp [intOf]
          · go_wp2_with (at_builtin; refine wpList_append_rd rfl (.tmp 21) (.tmp 28) 29 rfl i0 Try.underlying29 hi hz0 hz1 hz2 w0.heap.size u0 cur rfl ?q1 (some ⟨wr.heap.size, 0, none⟩) 1 [UInt8.ofNat (shr8 x 1)] rfl (by simp) ?q2 ?q3 ?q4 ?q5)
            case q1 => exact O.alloc _
            case q2 => exact cells_one wr _ _ (cells_at x 1 _ (by first | (simp [shr8]; done) | (simp [shr8]; omega)))
            case q3 => have := HCl.out; simp; omega
            case q4 => have := G.size; simp; omega
            case q5 =>
              intro y2 w2 O2 K2
              have G2 : w0.grownBy w2 none := grown_trans_new (grown_trans G (World.grownBy_alloc _ _ _)) K2 (fun z hz => (O.lt z hz).1)
              have F3 := blk_kept (blk_alloc F1 _) (O.alloc _) K2
              have F4 := blk_kept (blk_alloc F2 _) (O.alloc _) K2
              have HC2 := layF_step _ _ _ _ _ HC.out
              clear K2 O G F1 F2 hx HC
              go_wp2
              go_roundw
              case rel => exact ⟨1, _, by omega, by go_num, O2, HC2, G2, F3, F4⟩
              case measure => simp [intOf]
          · go_wp2_with (at_builtin; refine wpList_append_rd rfl (.tmp 21) (.tmp 28) 29 rfl i0 Try.underlying29 hi hz0 hz1 hz2 w0.heap.size u0 cur rfl ?q1 (some ⟨wr.heap.size, 0, none⟩) 1 [UInt8.ofNat (shr8 x 2)] rfl (by simp) ?q2 ?q3 ?q4 ?q5)
            case q1 => exact O.alloc _
            case q2 => exact cells_one wr _ _ (cells_at x 2 _ (by first | (simp [shr8]; done) | (simp [shr8]; omega)))
            case q3 => have := HCl.out; simp; omega
            case q4 => have := G.size; simp; omega
            case q5 =>
              intro y2 w2 O2 K2
              have G2 : w0.grownBy w2 none := grown_trans_new (grown_trans G (World.grownBy_alloc _ _ _)) K2 (fun z hz => (O.lt z hz).1)
              have F3 := blk_kept (blk_alloc F1 _) (O.alloc _) K2
              have F4 := blk_kept (blk_alloc F2 _) (O.alloc _) K2
              have HC2 := layF_step _ _ _ _ _ HC.out
              clear K2 O G F1 F2 hx HC
              go_wp2
              go_roundw
              case rel => exact ⟨2, _, by omega, by go_num, O2, HC2, G2, F3, F4⟩
              case measure => simp [intOf]
          · go_wp2_with (at_builtin; refine wpList_append_rd rfl (.tmp 21) (.tmp 28) 29 rfl i0 Try.underlying29 hi hz0 hz1 hz2 w0.heap.size u0 cur rfl ?q1 (some ⟨wr.heap.size, 0, none⟩) 1 [UInt8.ofNat (shr8 x 3)] rfl (by simp) ?q2 ?q3 ?q4 ?q5)
            case q1 => exact O.alloc _
            case q2 => exact cells_one wr _ _ (cells_at x 3 _ (by first | (simp [shr8]; done) | (simp [shr8]; omega)))
            case q3 => have := HCl.out; simp; omega
            case q4 => have := G.size; simp; omega
            case q5 =>
              intro y2 w2 O2 K2
              have G2 : w0.grownBy w2 none := grown_trans_new (grown_trans G (World.grownBy_alloc _ _ _)) K2 (fun z hz => (O.lt z hz).1)
              have F3 := blk_kept (blk_alloc F1 _) (O.alloc _) K2
              have F4 := blk_kept (blk_alloc F2 _) (O.alloc _) K2
              have HC2 := layF_step _ _ _ _ _ HC.out
              clear K2 O G F1 F2 hx HC
              go_wp2
              go_roundw
              case rel => exact ⟨3, _, by omega, by go_num, O2, HC2, G2, F3, F4⟩
              case measure => simp [intOf]
    · obtain rfl : k = fs.length := by omega
      rw [List.take_length] at O
      go_wp2
      go_ret
      exact ⟨_, rfl, O, G⟩

end Go.Proofs.Ytoimhggpblkcgaa
