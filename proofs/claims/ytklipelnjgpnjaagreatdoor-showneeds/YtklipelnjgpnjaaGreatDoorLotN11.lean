import Derived.Test.YtklipelnjgpnjaaGreatDoorLotN10
import Derived.Laws.CopyOwn
import Derived.Deep.RegionHeld3
import Derived.Test.YtklipelnjgpnjaaGreatDoorLotN9
import Derived.Test.YtklipelnjgpnjaaGreatDoorLotN2
namespace Go.Proofs.YtklipelnjgpnjaaGreatDoor
open Go.RowKit
set_option maxRecDepth 100000
structure Tx where
 s : List UInt8
 row : Int
 deep : Nat
def Tx.cells (x : Tx) : List Value := [str x.s, .int .i64 x.row, .int .i64 (x.deep : Int)]
theorem aV3 (ys : List UInt8) (h : ys.length = 4) : splice (List.replicate 4 (.int .u8 0 : Value)) 0 (ys.map bv) = ys.map bv := by
 unfold splice
 rw [List.take_zero, List.nil_append, Nat.zero_add, List.length_map, h, List.drop_eq_nil_of_le (by simp), List.append_nil]
theorem a9U (k : Int) : (a0P k).length ≤ 4 := by
 unfold a0P
 split
 ·decide
 ·split
  ·decide
  ·decide
theorem a2V (k : Int) : (t7 k).length ≤ 5 := by
 by_cases h1 : k = 1
 ·subst h1; decide
 by_cases h2 : k = 2
 ·subst h2; decide
 by_cases h3 : k = 3
 ·subst h3; decide
 by_cases h4 : k = 4
 ·subst h4; decide
 by_cases h5 : k = 5
 ·subst h5; decide
 by_cases h6 : k = 6
 ·subst h6; decide
 by_cases h7 : k = 7
 ·subst h7; decide
 by_cases h8 : k = 8
 ·subst h8; decide
 by_cases h9 : k = 9
 ·subst h9; decide
 by_cases h10 : k = 10
 ·subst h10; decide
 by_cases h11 : k = 11
 ·subst h11; decide
 by_cases h12 : k = 12
 ·subst h12; decide
 by_cases h13 : k = 13
 ·subst h13; decide
 unfold t7
 rw [if_neg h1, if_neg h2, if_neg h3, if_neg h4, if_neg h5, if_neg h6, if_neg h7, if_neg h8, if_neg h9, if_neg h10, if_neg h11, if_neg h12, if_neg h13]
 decide
theorem a7d (x : Ng) : (I0 x).length ≤ 1000 := by
 unfold I0
 by_cases h : x.of = 3
 ·rw [if_pos h]
  have hp : (d8 (k8 x)).length = 8 := a3I 8 _ (a06 x)
  generalize d8 (k8 x) = gs at hp
  have hl : ∀ zs : List Nat, zs.length ≤ 8 → (o7 58 (zs.map j6)).length ≤ 40 := fun zs hz => by
   have := a2b 58 (zs.map j6) 4 (fun l hl => by
    obtain ⟨g, -, rfl⟩ := List.mem_map.1 hl
    exact (a4K g).2.2.1)
   rw [List.length_map] at this
   omega
  unfold a01
  cases U7 0 gs none with
  | none => have := hl gs (by omega); exact Nat.le_trans this (by decide)
  | some p =>
   have h1 := hl (gs.take p.1) (by rw [List.length_take]; omega)
   have h2 := hl (gs.drop (p.1 + p.2)) (by rw [List.length_drop]; omega)
   show (o7 58 ((gs.take p.1).map j6) ++ (58 :: 58 :: o7 58 ((gs.drop (p.1 + p.2)).map j6))).length ≤ 1000
   rw [List.length_append, List.length_cons, List.length_cons]
   omega
 ·rw [if_neg h]
  unfold T3
  have := a2b 46 (((k8 x).take 4).map fun x => dec x.toNat) 20 (fun l hl => by
   obtain ⟨y, -, rfl⟩ := List.mem_map.1 hl
   exact S7 _)
  rw [List.length_map, List.length_take, a06] at this
  omega
theorem Tx.cells_len (p : Tx) : p.cells.length = 3 := rfl
theorem Tx.cells_one (p : Tx) : ∀ u ∈ p.cells, u.oneCell' = true := by
 intro u hu
 simp only [Tx.cells, str, List.mem_cons, List.not_mem_nil, or_false] at hu
 rcases hu with rfl | rfl | rfl <;> rfl
structure OW (w W : World) (B : Nat) (x : Ng) : Prop where
 nb : NB W B x
 res : VAt W (B + 1) 47 #[.string ⟨#[]⟩, .int .i64 0, .int .i64 0]
 up : w.grownBy W none
 base : w.heap.size ≤ B
theorem OW.kept {w W W' : World} {B : Nat} {x : Ng} (h : OW w W B x) (K : W.grownBy W' none) : OW w W' B x := ⟨h.nb.kept K, h.res.kept K, d3 h.up K, h.base⟩
theorem OW.alloc (w : World) (x : Ng) : OW w ((w.alloc (.cells x.cells.toArray 43)).alloc (.cells #[.string ⟨#[]⟩, .int .i64 0, .int .i64 0] 47)) w.heap.size x := by
 have K := World.grownBy_alloc (w.alloc (.cells x.cells.toArray 43)) (.cells #[.string ⟨#[]⟩, .int .i64 0, .int .i64 0] 47) none
 have h := VAt.alloc (w.alloc (.cells x.cells.toArray 43)) 47 #[.string ⟨#[]⟩, .int .i64 0, .int .i64 0]
 rw [show (w.alloc (.cells x.cells.toArray 43)).heap.size = w.heap.size + 1 by simp] at h
 exact ⟨(NB.alloc w x).kept K, h, d3 (World.grownBy_alloc w _ none) K, Nat.le_refl _⟩
theorem a9E {x : Ng} (h : arG x.kind = some 0) : d5 x = 12 := by
 rcases a0H h with ⟨h1, -⟩ | ⟨h1, -⟩ | ⟨-, h1⟩
 ·cases h1
 ·cases h1
 ·unfold d5
  rw [if_neg (by omega), if_neg (by omega), if_neg (by omega), if_neg (by omega), if_neg (by omega), if_pos (by omega)]
theorem a4Y : ∀ (l : List Ng) (st s : List Pt) (k : Nat), j8 st k l = .ok s → ∀ x ∈ l, U9 x = true ∧ m4 x = 0 ∧ ∃ a, arG x.kind = some a
 | [], st, s, k, h, x, hx => by cases hx
 | y :: l, st, s, k, h, x, hx => by
  simp only [j8] at h
  cases hy : z6 y st with
  | error e => rw [hy] at h; cases h
  | ok s1 =>
   rw [hy] at h
   rcases List.mem_cons.1 hx with rfl | hx
   ·unfold z6 at hy
    split at hy
    ·cases hy
    ·rename_i a ha
     split at hy
     ·cases hy
     ·split at hy
      ·cases hy
      ·rename_i hf
       have hf0 : A9 x (st.drop (st.length - a)) = 0 := Decidable.not_not.1 hf
       unfold A9 at hf0
       split at hf0
       ·cases hf0
       ·rename_i hfm
        split at hf0
        ·rename_i hkE; exact absurd hf0 hkE
        ·split at hf0
         ·cases hf0
         ·exact ⟨by simpa using hfm, hf0, a, ha⟩
   ·exact a4Y l s1 s (k + 1) h x hx
theorem a4a {x : Ng} (h : U9 x = true) (hr : m4 x = 0) : 0 ≤ x.side ∧ x.side ≤ 2 ∧ 0 ≤ x.of ∧ x.of ≤ 13 ∧ 0 ≤ x.bits ∧ x.bits ≤ 128 ∧ (x.kind = 10 → x.side ≠ 0) ∧ (x.kind = 3 → 1 ≤ x.size ∧ x.size ≤ 4) ∧ (x.kind = 6 → 1 ≤ x.op ∧ x.op ≤ 6) ∧ (x.kind = 4 → 1 ≤ x.op ∧ x.op ≤ 10) := by
 unfold U9 at h
 obtain ⟨hs, hm⟩ := Bool.and_eq_true_iff.1 h
 unfold a0a at hs
 simp only [Bool.and_eq_true, decide_eq_true_eq] at hs
 obtain ⟨⟨⟨⟨⟨⟨⟨⟨-, h1⟩, -⟩, -⟩, h4⟩, h5⟩, h6⟩, -⟩, h8⟩ := hs
 have hin : ∀ {a lo hi : Int}, inG a lo hi = true → lo ≤ a ∧ a ≤ hi := fun h => by
  unfold inG at h
  have := Bool.and_eq_true_iff.1 h
  exact ⟨of_decide_eq_true this.1, of_decide_eq_true this.2⟩
 have hhost : a1I x = true → (2 ≤ x.of ∧ x.of ≤ 3) ∧ 0 ≤ x.side ∧ x.side ≤ 2 := fun h => by
  unfold a1I at h
  have h2 := (Bool.and_eq_true_iff.1 h).1
  exact ⟨hin (Bool.and_eq_true_iff.1 h2).1, hin (Bool.and_eq_true_iff.1 h2).2⟩
 unfold q7 at hm
 unfold m4 at hr
 unfold D0 at h1 h4 h5 h6 h8
 by_cases k1 : x.kind = 1 ∨ x.kind = 12
 ·simp only [if_pos k1] at h1 h4 h5 h6 h8
  omega
 simp only [if_neg k1] at h1 h4 h5 h6 h8
 by_cases k3 : x.kind = 3
 ·simp only [if_pos k3] at h1 h4 h5 h6 h8 hm hr
  have := hin hm
  split at hr
  ·omega
  ·cases hr
 simp only [if_neg k3] at h1 h4 h5 h6 h8 hm hr
 by_cases k4 : x.kind = 4 ∨ x.kind = 6
 ·simp only [if_pos k4] at h1 h4 h5 h6 h8
  by_cases k4' : x.kind = 4
  ·simp only [if_pos k4'] at hm
   have := hin hm
   omega
  ·simp only [if_neg k4'] at hm
   rw [if_pos (by omega)] at hm
   have := hin hm
   omega
 simp only [if_neg k4] at h1 h4 h5 h6 h8
 rw [if_neg (by omega), if_neg (by omega)] at hm
 by_cases k10 : x.kind = 10
 ·simp only [if_pos k10] at h1 h4 h5 h6 h8 hm
  have := hin hm
  omega
 simp only [if_neg k10] at h1 h4 h5 h6 h8 hm
 by_cases k11 : x.kind = 11
 ·simp only [if_pos k11] at h1 h4 h5 h6 h8 hm
  have := hin hm
  omega
 simp only [if_neg k11] at h1 h4 h5 h6 h8 hm
 by_cases k13 : x.kind = 13
 ·simp only [if_pos k13] at h1 h4 h5 h6 h8 hm
  have := hin hm
  omega
 simp only [if_neg k13] at h1 h4 h5 h6 h8 hm
 by_cases k14 : x.kind = 14
 ·simp only [if_pos k14] at h1 h4 h5 h6 h8
  rw [if_pos (.inl k14)] at hm
  have := hhost hm
  omega
 simp only [if_neg k14] at h1 h4 h5 h6 h8
 by_cases k15 : x.kind = 15
 ·simp only [if_pos k15] at h1 h4 h5 h6 h8
  rw [if_pos (.inr k15)] at hm
  have := hhost hm
  rw [if_neg (by omega), if_neg (by omega), if_neg (by omega), if_pos k15] at hr
  have hal : (l0 x).length ≤ 16 := by
   unfold l0
   split
   ·rw [List.length_take, a06]; omega
   ·rw [a06]; omega
  split at hr
  ·cases hr
  ·rename_i hb
   have hb' := Decidable.not_not.1 hb
   omega
 simp only [if_neg k15] at h1 h4 h5 h6 h8
 rw [if_neg (by omega)] at hm
 by_cases k16 : x.kind = 16
 ·simp only [if_pos k16] at h1 h4 h5 h6 h8 hm
  obtain ⟨ho, hsd⟩ := Bool.and_eq_true_iff.1 hm
  have h2 := hin hsd
  rcases Bool.or_eq_true_iff.1 ho with ho | ho
  ·have : x.of = 0 := by simpa using ho
   omega
  ·have := hin ho
   omega
 simp only [if_neg k16] at h1 h4 h5 h6 h8
 omega
theorem az5 (x : Ng) : (x6 x).length ≤ 1500 := by
 have h1 := S7 x.n
 have h2 := S7 x.m
 have h3 := S7 x.bits.toNat
 have h4 := a7d x
 have h5 := a9U x.side
 have h6 := a2V x.of
 unfold x6
 repeat' split
 all_goals
  try simp only [List.length_append, List.length_cons, List.length_nil]
  omega
theorem a39 (want : Bool) (r : List UInt8 × Nat) : (y9 want r).1.length ≤ r.1.length + 2 ∧ (y9 want r).2 ≤ r.2 + 1 := by
 cases want with
 | true => exact ⟨by show ([40] ++ r.1 ++ [41]).length ≤ _; simp, Nat.le_refl _⟩
 | false => exact ⟨by show r.1.length ≤ _; omega, by show r.2 ≤ _; omega⟩
theorem aO4 (k : Int) : (a2u k).length ≤ 2 := by
 by_cases h1 : k = 1
 ·subst h1; decide
 by_cases h2 : k = 2
 ·subst h2; decide
 by_cases h3 : k = 3
 ·subst h3; decide
 by_cases h4 : k = 4
 ·subst h4; decide
 by_cases h5 : k = 5
 ·subst h5; decide
 by_cases h6 : k = 6
 ·subst h6; decide
 unfold a2u
 rw [if_neg h1, if_neg h2, if_neg h3, if_neg h4, if_neg h5, if_neg h6]
 decide
theorem aH0 (k : Int) : (a2n k).length ≤ 2 := by
 by_cases h1 : k = 1
 ·subst h1; decide
 by_cases h2 : k = 2
 ·subst h2; decide
 by_cases h3 : k = 3
 ·subst h3; decide
 by_cases h4 : k = 4
 ·subst h4; decide
 by_cases h5 : k = 5
 ·subst h5; decide
 by_cases h6 : k = 6
 ·subst h6; decide
 by_cases h7 : k = 7
 ·subst h7; decide
 by_cases h8 : k = 8
 ·subst h8; decide
 by_cases h9 : k = 9
 ·subst h9; decide
 by_cases h10 : k = 10
 ·subst h10; decide
 unfold a2n
 rw [if_neg h1, if_neg h2, if_neg h3, if_neg h4, if_neg h5, if_neg h6, if_neg h7, if_neg h8, if_neg h9, if_neg h10]
 decide
theorem aa1 (x : Ng) : (U4 x).length ≤ 3 := by
 have h1 := aO4 x.op
 have h2 := aH0 x.op
 unfold U4
 split
 ·decide
 ·split
  ·decide
  ·split
   ·omega
   ·omega
theorem aa2 (n : Int) : (U5 n).length ≤ 21 := by
 have := S7 n.toNat
 unfold U5
 split
 ·decide
 ·simp only [List.length_append, List.length_cons, List.length_nil]; omega
theorem a4S (full : Bool) : ∀ T : Tr, (T.txt full).1.length ≤ 1600 * T.flat.length ∧ (T.txt full).2 ≤ 2 * T.flat.length
 | .leaf x => by
  have := az5 x
  exact ⟨by show (x6 x).length ≤ 1600 * 1; omega, by show 0 ≤ _; omega⟩
 | .one x p => by
  obtain ⟨h1, h2⟩ := a4S full p
  have hf : (Tr.one x p).flat.length = p.flat.length + 1 := by show (p.flat ++ [x]).length = _; simp
  have hn := a2V x.of
  have hs := aa2 x.size
  rw [hf, Tr.txt]
  split
  ·simp only [List.length_append, List.length_cons, List.length_nil]
   omega
  ·have hp := a39 (D2 full (d5 p.root) (d5 x)) (p.txt full)
   have hq : ((if x.kind = 9 then [110, 111, 116, 32] else [45]) : List UInt8).length ≤ 4 := by split <;> decide
   simp only [List.length_append]
   omega
 | .two x p q => by
  obtain ⟨h1, h2⟩ := a4S full p
  obtain ⟨h3, h4⟩ := a4S full q
  have hf : (Tr.two x p q).flat.length = p.flat.length + q.flat.length + 1 := by show (p.flat ++ q.flat ++ [x]).length = _; simp; omega
  have hs := aa1 x
  have hp := a39 (D2 full (d5 p.root) (if d5 x = 4 then 5 else d5 x)) (p.txt full)
  have hq := a39 (D2 full (d5 q.root) (d5 x + 1)) (q.txt full)
  rw [hf, Tr.txt]
  simp only [List.length_append, List.length_cons, List.length_nil]
  have hpp : 0 < p.flat.length := List.length_pos_iff.2 p.flat_ne
  have hqp : 0 < q.flat.length := List.length_pos_iff.2 q.flat_ne
  omega
theorem a0V {ts : List Tk} (h : (hdT ts).kind ≠ 0) : ts ≠ [] := by
 rintro rfl
 exact h rfl
theorem a5Q {ts : List Tk} {x : List UInt8} (h : isB ts x = true) : (hdT ts).kind = 5 ∨ (hdT ts).kind = 2 := by
 unfold isB at h
 simp only [Bool.and_eq_true, Bool.or_eq_true, beq_iff_eq] at h
 exact h.1
theorem a2T {ts : List Tk} {x : List UInt8} (h : isB ts x = true) : (hdT ts).text = x := by
 unfold isB at h
 simp only [Bool.and_eq_true, beq_iff_eq] at h
 exact h.2
theorem T1 {ts : List Tk} {x : List UInt8} (h : isB ts x = true) : ts ≠ [] := a0V (by have := a5Q h; omega)
def Fr (ts r : List Tk) : Prop := r <:+ ts ∧ r.length < ts.length
theorem I5 {ts : List Tk} (h : ts ≠ []) : Fr ts ts.tail := ⟨List.tail_suffix ts, by cases ts with
 | nil => exact absurd rfl h
 | cons a r => simp⟩
theorem Fr.trans {a b c : List Tk} (h : Fr a b) (k : Fr b c) : Fr a c := ⟨k.1.trans h.1, Nat.lt_trans k.2 h.2⟩
theorem j0 {α β : Type} {x : Except Er α} {f : α → Except Er β} {y : β} (h : d6 x f = .ok y) : ∃ v, x = .ok v ∧ f v = .ok y := by
 cases x with
 | error e => cases h
 | ok v => exact ⟨v, rfl, h⟩
theorem a1K {x : List UInt8} {ts r : List Tk} (h : m3 x ts = .ok r) : Fr ts r := by
 unfold m3 at h
 split at h
 ·rename_i hb
  cases h
  exact I5 (T1 hb)
 ·cases h
theorem a1x {ts r : List Tk} {n : Nat} (h : j7 ts = .ok (n, r)) : Fr ts r := by
 unfold j7 at h
 split at h
 ·rename_i hk
  cases h
  exact I5 (a0V (by omega))
 ·cases h
theorem a5j {k : Nat} {ts r : List Tk} {d : Nd} (h : a0g k ts = .ok (d, r)) : Fr ts r := by
 unfold a0g at h
 split at h
 ·rename_i hk
  split at h
  ·cases h
   exact I5 (a0V (by omega))
  ·cases h
 ·split at h
  ·rename_i hk
   split at h
   ·cases h
    exact I5 (a0V (by omega))
   ·cases h
  ·cases h
theorem a9V {of at' side : Nat} {ts r : List Tk} {ns : List (Nd × Nat)} (h : a02 of at' side ts = .ok (ns, r)) : Fr ts r ∧ ns ≠ [] := by
 unfold a02 at h
 split at h
 ·rename_i hb
  obtain ⟨⟨n, r1⟩, h1, h2⟩ := j0 h
  cases h2
  exact ⟨(I5 (T1 hb)).trans (a1x h1), by simp⟩
 ·split at h
  ·rename_i hb
   obtain ⟨⟨n, r1⟩, h1, h2⟩ := j0 h
   obtain ⟨r2, h3, h4⟩ := j0 h2
   obtain ⟨⟨m, r3⟩, h5, h6⟩ := j0 h4
   cases h6
   exact ⟨(((I5 (T1 hb)).trans (a1x h1)).trans (a1K h3)).trans (a1x h5), by simp⟩
  ·split at h
   ·rename_i hb
    obtain ⟨⟨n, r1⟩, h1, h2⟩ := j0 h
    cases h2
    exact ⟨(I5 (T1 hb.2)).trans (a5j h1), by simp⟩
   ·split at h
    ·rename_i hb
     obtain ⟨⟨n, r1⟩, h1, h2⟩ := j0 h
     obtain ⟨r2, h3, h4⟩ := j0 h2
     obtain ⟨⟨m, r3⟩, h5, h6⟩ := j0 h4
     cases h6
     exact ⟨(((I5 (T1 hb.2)).trans (a5j h1)).trans (a1K h3)).trans (a1x h5), by simp⟩
    ·cases h
theorem a3K (ts : List Tk) : o9 ts <:+ ts := by
 unfold o9
 split
 ·exact List.suffix_refl _
 ·exact List.tail_suffix _
theorem a4L {of at' : Nat} {ts r : List Tk} {ns : List (Nd × Nat)} (h : a1i of at' ts = .ok (ns, r)) : Fr ts r ∧ ns ≠ [] := by
 obtain ⟨h1, h2⟩ := a9V h
 exact ⟨⟨h1.1.trans (a3K ts), Nat.lt_of_lt_of_le h1.2 (a3K ts).length_le⟩, h2⟩
theorem a6U {ts r : List Tk} {ns : List (Nd × Nat)} (hk : (hdT ts).kind = 2) (h : L7 ts = .ok (ns, r)) : Fr ts r ∧ ns ≠ [] := by
 have hne := a0V (ts := ts) (by omega)
 unfold L7 at h
 split at h
 ·cases h; exact ⟨I5 hne, by simp⟩
 ·split at h
  ·cases h; exact ⟨I5 hne, by simp⟩
  ·split at h
   ·cases h; exact ⟨I5 hne, by simp⟩
   ·split at h
    ·obtain ⟨⟨n, r1⟩, h1, h2⟩ := j0 h
     cases h2
     exact ⟨(I5 hne).trans (a1x h1), by simp⟩
    ·split at h
     ·exact a4L h
     ·cases h
theorem a4O {ts r : List Tk} {n : Nat} (h : a0z ts = .ok (n, r)) : Fr ts r := by
 unfold a0z at h
 split at h
 ·rename_i hb
  obtain ⟨⟨n, r1⟩, h1, h2⟩ := j0 h
  obtain ⟨r2, h3, h4⟩ := j0 h2
  cases h4
  exact ((I5 (T1 hb)).trans (a1x h1)).trans (a1K h3)
 ·obtain ⟨r2, h3, h4⟩ := j0 h
  cases h4
  exact a1K h3
theorem a00 {α : Type} {nest : Nat} {ts : List Tk} {x : Except Er α} {y : α} (h : D6 nest ts x = .ok y) : nest ≠ 200 ∧ x = .ok y := by
 unfold D6 at h
 split at h
 ·cases h
 ·rename_i hn; exact ⟨hn, h⟩
def FrO (rec : Nat → List Tk → Out) : Prop := ∀ nest ts ns r, rec nest ts = .ok (ns, r) → Fr ts r ∧ ns ≠ []
theorem aC9 {rec : Nat → List Tk → Out} (hr : FrO rec) {nest of at' : Nat} {ts r : List Tk} {ns : List (Nd × Nat)} (h : T2 rec nest of at' ts = .ok (ns, r)) : r <:+ ts ∧ ns ≠ [] := by
 unfold T2 at h
 split at h
 ·rename_i hb
  obtain ⟨-, h⟩ := a00 h
  obtain ⟨⟨n1, r1⟩, h1, h2⟩ := j0 h
  obtain ⟨⟨n2, r2⟩, h3, h4⟩ := j0 h2
  cases h4
  exact ⟨((I5 (T1 hb.1)).trans ((hr _ _ _ _ h1).1.trans (a4O h3))).1, by simp⟩
 ·split at h
  ·cases h
  ·split at h
   ·rename_i hb
    obtain ⟨⟨n, r1⟩, h1, h2⟩ := j0 h
    cases h2
    exact ⟨((I5 (T1 hb.2)).trans (a1x h1)).1, by simp⟩
   ·split at h
    ·exact ⟨(a4L h).1.1, (a4L h).2⟩
    ·cases h
     exact ⟨List.suffix_refl _, by simp⟩
theorem aK2 {rec : Nat → List Tk → Out} (hr : FrO rec) : FrO (L3 rec) := by
 intro nest ts ns r h
 unfold L3 at h
 split at h
 ·cases h
  exact ⟨I5 (a0V (by omega)), by simp⟩
 ·split at h
  ·rename_i hb
   obtain ⟨-, h⟩ := a00 h
   obtain ⟨⟨n1, r1⟩, h1, h2⟩ := j0 h
   obtain ⟨r2, h3, h4⟩ := j0 h2
   cases h4
   exact ⟨(I5 (T1 hb)).trans ((hr _ _ _ _ h1).1.trans (a1K h3)), (hr _ _ _ _ h1).2⟩
  ·split at h
   ·cases h
   ·rename_i hk
    have hk' : (hdT ts).kind = 2 := Decidable.byContradiction hk
    have hne := a0V (ts := ts) (by omega)
    split at h
    ·obtain ⟨h1, h2⟩ := aC9 hr h
     have ht := I5 hne
     exact ⟨⟨h1.trans ht.1, Nat.lt_of_le_of_lt h1.length_le ht.2⟩, h2⟩
    ·exact a6U hk' h
theorem a8S {rec : List Tk → Out} (hr : ∀ ts ns r, rec ts = .ok (ns, r) → Fr ts r ∧ ns ≠ []) (k : Nat) : ∀ (f : Nat) (ns : List (Nd × Nat)) (ts : List Tk) (ms : List (Nd × Nat)) (r : List Tk), x8 rec k f ns ts = .ok (ms, r) → r <:+ ts ∧ (ns ≠ [] → ms ≠ [])
 | 0, ns, ts, ms, r, h => by
  cases h
  exact ⟨List.suffix_refl _, fun h => h⟩
 | f + 1, ns, ts, ms, r, h => by
  unfold x8 at h
  split at h
  ·cases h
   exact ⟨List.suffix_refl _, fun h => h⟩
  ·obtain ⟨⟨n1, r1⟩, h1, h2⟩ := j0 h
   have hf := (hr _ _ _ h1).1.1.trans (List.tail_suffix ts)
   split at h2
   ·cases h2
    exact ⟨hf, fun _ => by simp⟩
   ·obtain ⟨h3, h4⟩ := a8S hr k f _ _ _ _ h2
    exact ⟨h3.trans hf, fun _ => h4 (by simp)⟩
theorem a0O : ∀ (f k : Nat), FrO (d7 f k)
 | 0, k => fun nest ts ns r h => by cases h
 | f + 1, k => fun nest ts ns r h => by
  have ih := a0O f
  rw [T4] at h
  unfold N0 at h
  split at h
  ·rename_i hb
   obtain ⟨-, h⟩ := a00 h
   obtain ⟨⟨n1, r1⟩, h1, h2⟩ := j0 h
   cases h2
   have hne : ts ≠ [] := by rcases hb.2 with hb | hb <;> exact T1 hb
   exact ⟨(I5 hne).trans (ih 3 _ _ _ _ h1).1, by simp⟩
  ·split at h
   ·rename_i hb
    obtain ⟨-, h⟩ := a00 h
    obtain ⟨⟨n1, r1⟩, h1, h2⟩ := j0 h
    cases h2
    exact ⟨(I5 (T1 hb.2)).trans (ih 11 _ _ _ _ h1).1, by simp⟩
   ·split at h
    ·exact ih (k + 1) _ _ _ _ h
    ·split at h
     ·exact aK2 (ih 1) _ _ _ _ h
     ·obtain ⟨⟨n1, r1⟩, h1, h2⟩ := j0 h
      obtain ⟨h3, h4⟩ := ih (k + 1) _ _ _ _ h1
      obtain ⟨h5, h6⟩ := a8S (fun ts ns r h => ih (k + 1) nest ts ns r h) k _ _ _ _ _ h2
      exact ⟨⟨h5.trans h3.1, Nat.lt_of_le_of_lt h5.length_le h3.2⟩, h6 h4⟩

end Go.Proofs.YtklipelnjgpnjaaGreatDoor
