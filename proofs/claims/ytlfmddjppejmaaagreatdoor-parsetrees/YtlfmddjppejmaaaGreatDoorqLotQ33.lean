import Derived.Test.YtlfmddjppejmaaaGreatDoorqLotQ12
import Derived.Test.YtlfmddjppejmaaaGreatDoorqLotQ32
import Derived.Test.YtlfmddjppejmaaaGreatDoorqLotQ2
set_option maxHeartbeats 64000000
set_option maxRecDepth 100000
namespace Go.Proofs.YtlfmddjppejmaaaGreatDoor
open Go.RowKit
theorem a4K {m : Nat} : ∀ (v : Nat) (d : List UInt8) (n : Nat), u6 m v d = some n → v ≤ n
 | v, [], n, h => by simp [u6] at h; omega
 | v, c :: d, n, h => by
  rw [u6] at h
  split at h
  ·split at h
   ·cases h
   ·have := a4K _ d n h; omega
  ·cases h
theorem a4I {a b : Nat} (hab : a ≤ b) : ∀ (d : List UInt8) (v : Nat), v ≤ a → u6 a v d = (u6 b v d).bind fun u => if a < u then none else some u
 | [], v, hv => by simp [u6]; omega
 | c :: d, v, hv => by
  rw [u6, u6]
  split
  ·by_cases h1 : a < 10 * v + (c.toNat - 48)
   ·rw [if_pos h1]
    split
    ·rfl
    ·cases hn : u6 b (10 * v + (c.toNat - 48)) d with
     | none => rfl
     | some u =>
      have := a4K _ d u hn
      simp only [Option.bind_some]
      rw [if_pos (by omega)]
   ·rw [if_neg h1, if_neg (by omega)]
    exact a4I hab d _ (by omega)
  ·rfl
def a3g (s : ByteArray) (e : Ending) : Prop := ∃ n : Nat, e = .returned (.tuple #[.int .u8 (n : Int), .bool (k9 255 (sl s)).isSome]) ∧ n < 256 ∧ ∀ u, k9 255 (sl s) = some u → n = u
theorem a1S {s : ByteArray} {e : Ending} (h : k9 255 (sl s) = none) (he : e = .returned (.tuple #[.int .u8 0, .bool false])) : a3g s e :=
 ⟨0, by rw [h]; exact he, by decide, fun u hu => by rw [h] at hu; cases hu⟩
theorem a8i (s : ByteArray) (w : World) :
  Calls Tryz.prog 130 #[.string s] w fun e w' => a3g s e ∧ w = w' := by
 have hl := j0 s
 by_cases h0 : s.size = 0
 ·have hn : k9 255 (sl s) = none := by
   have : sl s = [] := List.eq_nil_of_length_eq_zero (by rw [j0]; exact h0)
   simp [k9, this]
  have HN : Hid (k9 255 (sl s) = none) := hn
  have hq : (s.size : Int) < 1 := by omega
  clear hn
  go_enter Tryz.func130, Tryz.ntmps130
  go_wp2
  go_ret2
  exact ⟨a1S HN.out rfl, rfl⟩
 ·have hq : ¬ (s.size : Int) < 1 := by omega
  by_cases h3 : 3 < s.size
  ·have hq3 : (3 : Int) < (s.size : Int) := by omega
   have hn : k9 255 (sl s) = none := by
    rw [k9]
    split
    ·rfl
    ·rename_i hh
     obtain ⟨a, b, c, d, r, hs⟩ : ∃ a b c d r, sl s = a :: b :: c :: d :: r := by
      match hm : sl s, hl with
      | a :: b :: c :: d :: r, _ => exact ⟨a, b, c, d, r, rfl⟩
      | [], hl => simp at hl; omega
      | [a], hl => simp at hl; omega
      | [a, b], hl => simp at hl; omega
      | [a, b, c], hl => simp at hl; omega
     rw [hs]
     simp only [hs, List.head?_cons, Option.some.injEq, List.length_cons] at hh
     have ha : a ≠ 48 := fun e => hh (.inr ⟨by omega, e⟩)
     simp only [u6]
     split
     ·rename_i hd
      have h49 : 49 ≤ a.toNat := by
       have h48 : a.toNat ≠ 48 := fun e => ha (UInt8.toNat_inj.1 e)
       simp [s8] at hd
       omega
      split
      ·rfl
      ·split
       ·split
        ·rfl
        ·split
         ·split
          ·rfl
          ·split
           ·rw [if_pos (by omega)]
           ·rfl
         ·rfl
       ·rfl
     ·rfl
   have HN : Hid (k9 255 (sl s) = none) := hn
   clear hn
   go_enter Tryz.func130, Tryz.ntmps130
   go_wp2
   go_ret2
   exact ⟨a1S HN.out rfl, rfl⟩
  ·have hq3 : ¬ (3 : Int) < (s.size : Int) := by omega
   obtain ⟨b, r, hbr⟩ : ∃ b r, sl s = b :: r := by
    cases h : sl s with
    | nil => rw [h] at hl; simp at hl; omega
    | cons b r => exact ⟨b, r, rfl⟩
   have hb0 : s[0]'(by omega) = b := by
    have := D8 s 0 (by omega)
    rw [hbr] at this
    simpa using this.symm
   by_cases hlead : 1 < s.size ∧ b = 48
   ·have hn : k9 255 (sl s) = none := by
     rw [k9, if_pos]
     rw [hbr]
     right
     rw [hbr] at hl
     exact ⟨by omega, by rw [hlead.2]; rfl⟩
    have HN : Hid (k9 255 (sl s) = none) := hn
    clear hn
    obtain ⟨h1, rfl⟩ := hlead
    have h1' : (1 : Int) < (s.size : Int) := by omega
    go_enter Tryz.func130, Tryz.ntmps130
    go_wp2
    go_ret2
    exact ⟨a1S HN.out rfl, rfl⟩
   ·have e : k9 255 (sl s) = u6 255 0 (sl s) := by
     rw [k9, if_neg]
     rw [hbr]
     rw [hbr] at hl
     simp only [reduceCtorEq, List.head?_cons, Option.some.injEq, false_or]
     intro ⟨x, y⟩
     exact hlead ⟨by omega, y⟩
    have e2 := a4I (a := 255) (b := 999) (by decide) (sl s) 0 (by decide)
    have HE : Hid (k9 255 (sl s) = (u6 999 0 (sl s)).bind fun u => if 255 < u then none else some u) := e.trans e2
    have hcase : ((b.toNat : Int) == 48) = false ∨ (((b.toNat : Int) == 48) = true ∧ ¬ (1 : Int) < (s.size : Int)) := by
     by_cases hb : b.toNat = 48
     ·refine .inr ⟨by rw [hb]; rfl, fun h1 => hlead ⟨by omega, UInt8.toNat_inj.1 hb⟩⟩
     ·refine .inl ?_
      rw [beq_eq_false_iff_ne]
      omega
    clear hlead hbr e e2
    rcases hcase with hcb | ⟨hcb, hca⟩
    all_goals
     go_enter Tryz.func130, Tryz.ntmps130
     go_wp2
     try clear hca
     clear hcb hb0
     go_loop [4, 26] (fun x i => ∃ k v : Nat, k ≤ s.size ∧ v < 10 ^ k ∧ i = .int .i64 k ∧ x = .int .i64 v ∧ Hid (u6 999 v ((sl s).drop k) = u6 999 0 (sl s))) (fun _ i => s.size - (intOf i).toNat)
     case atStart => exact ⟨0, 0, Nat.zero_le _, by decide, rfl, rfl, rfl⟩
     case round =>
      obtain ⟨k, v, hk, hv, rfl, rfl, HI⟩ := hrel
      by_cases hlt : k < s.size
      ·have hki : (k : Int) < (s.size : Int) := by omega
       have HS : Hid ((sl s).drop k = s[k] :: (sl s).drop (k + 1)) := D8 s k hlt
       have hb := s[k].toNat_lt
       have hv99 : v ≤ 99 := by
        have : k = 0 ∨ k = 1 ∨ k = 2 := by omega
        rcases this with rfl | rfl | rfl <;> omega
       by_cases hd : s8 s[k] = true
       ·have hd1 : 48 ≤ s[k].toNat := by simp [s8] at hd; omega
        have hd2 : s[k].toNat ≤ 57 := by simp [s8] at hd; omega
        have HN : Hid (u6 999 (10 * v + (s[k].toNat - 48)) ((sl s).drop (k + 1)) = u6 999 0 (sl s)) := by
         show _ = _
         rw [← HI.out, HS.out, u6, if_pos hd, if_neg (by omega)]
        have hv2 : 10 * v + (s[k].toNat - 48) < 10 ^ (k + 1) := by rw [Nat.pow_succ]; omega
        go_wp2
        go_round
        case rel => exact ⟨k + 1, 10 * v + (s[k].toNat - 48), by omega, hv2, by go_num, by rw [show ((10 * v + (s[k].toNat - 48) : Nat) : Int) = 10 * (v : Int) + ((s[k].toNat : Int) - 48) by omega], HN⟩
        case measure => simp [intOf]; omega
       ·have HN : Hid (k9 255 (sl s) = none) := by
         show _ = none
         rw [HE.out, ← HI.out, HS.out, u6, if_neg hd]
         rfl
        have hd' : s[k].toNat < 48 ∨ 57 < s[k].toNat := by simp [s8] at hd; omega
        rcases hd' with hd' | hd'
        all_goals
         go_wp2
         all_goals (first | (exfalso; omega) | (go_ret2; exact ⟨a1S HN.out rfl, rfl⟩))
      ·obtain rfl : k = s.size := by omega
       have HN : Hid (k9 255 (sl s) = if 255 < v then none else some v) := by
        show _ = _
        rw [HE.out, ← HI.out, List.drop_eq_nil_of_le (by rw [j0]; omega)]
        rfl
       have hv999 : v ≤ 999 := by
        have : s.size = 1 ∨ s.size = 2 ∨ s.size = 3 := by omega
        rcases this with h | h | h <;> rw [h] at hv <;> omega
       by_cases h255 : v ≤ 255
       ·have h255' : (v : Int) ≤ 255 := by omega
        go_wp2
        go_ret2
        exact ⟨⟨v, by rw [HN.out, if_neg (by omega)]; rfl, by omega, fun u hu => by rw [HN.out, if_neg (by omega)] at hu; exact Option.some.inj hu⟩, rfl⟩
       ·have h255' : ¬ (v : Int) ≤ 255 := by omega
        have hw : IntKind.u8.wrap (v : Int) = ((v % 256 : Nat) : Int) := by rw [IntKind.wrap_u8]; omega
        go_wp2
        go_ret2
        exact ⟨⟨v % 256, by rw [HN.out, if_pos (by omega)]; first | rfl | (rw [← hw]; rfl), by omega, fun u hu => by rw [HN.out, if_pos (by omega)] at hu; cases hu⟩, rfl⟩

open Go.RowKit Go.Shelf

attribute [local go_sem] Oper.semAt_some
theorem a0y {X Y : World} {row : Option Nat} {g t : Nat} {xs : List UInt8} (h : AAt X g t xs) (hg : X.grownBy Y row) (hr : ∀ r, row = some r → ∃ o : Obj, X.heap[r]? = some o ∧ o.isCells = false) : AAt Y g t xs :=
 h.grown hg (fun e => by
  obtain ⟨o, ho, hc⟩ := hr g e
  unfold AAt at h
  rw [h] at ho
  cases ho
  cases hc)
theorem E5 {X Y : World} {row : Option Nat} {B : Nat} {t : TypeId} {v : Value} (h : Boxed X B t v) (hg : X.grownBy Y row) (hr : ∀ r, row = some r → ∃ o : Obj, X.heap[r]? = some o ∧ o.isCells = false) : Boxed Y B t v :=
 h.kept hg (fun e => by
  obtain ⟨o, ho, hc⟩ := hr B e.symm
  unfold Boxed at h
  rw [h] at ho
  cases ho
  cases hc)
def W9 (pre : List (Nat × List UInt8)) : List UInt8 := pre.foldl (fun a p => a.set p.1 (UInt8.ofNat ((k9 255 p.2).getD 0))) (List.replicate 4 0)
def a0g (pre : List (Nat × List UInt8)) : Prop := ∀ p ∈ pre, (k9 255 p.2).isSome = true ∧ p.1 < 4
theorem a5Q (pre : List (Nat × List UInt8)) (x : Nat × List UInt8) : W9 (pre ++ [x]) = (W9 pre).set x.1 (UInt8.ofNat ((k9 255 x.2).getD 0)) := by simp [W9]
theorem L9 {W : World} {B b i : Nat} {t : TypeId} {v : Value} (u : Value) (h : Boxed W B t v) (hb : B ≠ b) : Boxed (W.setCell ⟨b, i, none⟩ u) B t v := by
 unfold Boxed at *
 rw [heap_setCell_other _ _ _ _ hb]
 exact h
theorem a3u (pre : List (Nat × List UInt8)) : (W9 pre).length = 4 := by
 have key : ∀ (l : List (Nat × List UInt8)) (a : List UInt8), (l.foldl (fun a p => a.set p.1 (UInt8.ofNat ((k9 255 p.2).getD 0))) a).length = a.length := by
  intro l
  induction l with
  | nil => intro a; rfl
  | cons x r ih => intro a; rw [List.foldl_cons, ih, List.length_set]
 exact key pre _
theorem S9 (W : World) (o : Obj) (k : Nat) (h : W.heap.size = k) : (W.alloc o).heap[k]? = some o := by subst h; exact heap_alloc_new W o
theorem E3 {W : World} {k : Nat} {o : Obj} (h : W.heap[k]? = some o) (o' : Obj) : (W.alloc o').heap[k]? = some o :=
 (by show (W.heap.push o')[k]? = some o; rw [Array.getElem?_push, if_neg (Nat.ne_of_lt (Array.getElem?_eq_some_iff.1 h).1)]; exact h)
theorem a8t (w : World) (s m : ByteArray) : ∀ W0, ((((((w.alloc (.cells #[.int .u8 0, .int .u8 0, .int .u8 0, .int .u8 0] 102)).alloc (.cells #[.int .i64 0] 24)).alloc (.cells #[.int .u8 0, .int .u8 0, .int .u8 0, .int .u8 0] 102)).alloc (.cells #[.int .i64 0] 3)).alloc (.cells #[.string s] 9)).alloc (.cells #[.string m] 9)) = W0 →
  AAt W0 w.heap.size 102 (List.replicate 4 0) ∧ Boxed W0 (w.heap.size + 1) 24 (.int .i64 0) ∧ AAt W0 (w.heap.size + 1 + 1) 102 (List.replicate 4 0) ∧ Boxed W0 (w.heap.size + 1 + 1 + 1) 3 (.int .i64 0) ∧ Boxed W0 (w.heap.size + 1 + 1 + 1 + 1) 9 (.string s) ∧ Boxed W0 (w.heap.size + 1 + 1 + 1 + 1 + 1) 9 (.string m) ∧ w.grownBy W0 none ∧ W0.heap.size = w.heap.size + 6 := by
 rintro W0 rfl
 refine ⟨?_, ?_, ?_, ?_, ?_, ?_, ?_, ?_⟩
 ·exact E3 (E3 (E3 (E3 (E3 (S9 _ _ _ rfl) _) _) _) _) _
 ·exact E3 (E3 (E3 (E3 (S9 _ _ _ (by simp only [World.size_alloc])) _) _) _) _
 ·exact E3 (E3 (E3 (S9 _ _ _ (by simp only [World.size_alloc])) _) _) _
 ·exact E3 (E3 (S9 _ _ _ (by simp only [World.size_alloc])) _) _
 ·exact E3 (S9 _ _ _ (by simp only [World.size_alloc])) _
 ·exact S9 _ _ _ (by simp only [World.size_alloc])
 ·exact d5 (d5 (d5 (d5 (d5 (World.grownBy_alloc _ _ _) (World.grownBy_alloc _ _ _)) (World.grownBy_alloc _ _ _)) (World.grownBy_alloc _ _ _)) (World.grownBy_alloc _ _ _)) (World.grownBy_alloc _ _ _)
 ·simp only [World.size_alloc]
theorem a1z {w W : World} (G : w.grownBy W none) : Below w.heap.size w W := (Below.refl _ _).grown G (Nat.le_refl _) (by simp)
theorem a0h {w W : World} (h : Below w.heap.size w W) : w.grownBy W none := ⟨h.os, h.tape, h.output, h.size, fun k hk _ => h.block k hk⟩
def I4 (w : World) (R E A F : Nat) (pre : List (Nat × List UInt8)) (W : World) : Prop :=
 (a0g pre ∧ AAt W A 102 (W9 pre) ∧ Boxed W F 3 (.int .i64 (pre.length : Int)) ∧ AAt W R 102 (List.replicate 4 0) ∧ Boxed W E 24 (.int .i64 0)) ∧ Below w.heap.size w W
def X4 (w : World) (R E : Nat) (c : Code) (pre : List (Nat × List UInt8)) (W : World) : Prop :=
 (c = .ret ∧ ¬ a0g pre ∧ AAt W R 102 (List.replicate 4 0) ∧ Boxed W E 24 (.int .i64 60)) ∧ Below w.heap.size w W
theorem a5G (w : World) (R E A F B : Nat) (hB : w.heap.size ≤ B) : OwnFrom B (I4 w R E A F) :=
 OwnFrom.and (Own.from (fun _ _ _ _ hs hg hr => ⟨hs.1, a0y hs.2.1 hg hr, E5 hs.2.2.1 hg hr, a0y hs.2.2.2.1 hg hr, E5 hs.2.2.2.2 hg hr⟩) _) (ownFrom_below (Nat.le_refl _) hB)
theorem a5L (w : World) (R E B : Nat) (hB : w.heap.size ≤ B) (c : Code) : OwnFrom B (X4 w R E c) :=
 OwnFrom.and (Own.from (fun _ _ _ _ hs hg hr => ⟨hs.1, hs.2.1, a0y hs.2.2.1 hg hr, E5 hs.2.2.2 hg hr⟩) _) (ownFrom_below (Nat.le_refl _) hB)
theorem z4 {X : World} {R : Nat} (j : Nat) (h : AAt X R 102 (List.replicate 4 0)) : AAt (X.setCell ⟨R, j, none⟩ (.int .u8 0)) R 102 (List.replicate 4 0) := by
 have := h.set j 0 (by decide)
 rw [show UInt8.ofNat 0 = 0 from rfl, List.set_replicate_self] at this
 exact this
theorem a2X {w W : World} {R E : Nat} (hR : AAt W R 102 (List.replicate 4 0)) (hE : Boxed W E 24 (.int .i64 0)) (hB : Below w.heap.size w W) (n : R ≠ E) (l1 : w.heap.size ≤ R) (l2 : w.heap.size ≤ E) :
  ∀ X, ((((((W.setCell ⟨R, 0, none⟩ (.int .u8 0)).setCell ⟨R, 1, none⟩ (.int .u8 0)).setCell ⟨R, 2, none⟩ (.int .u8 0)).setCell ⟨R, 3, none⟩ (.int .u8 0)).setCell ⟨E, 0, none⟩ (.int .i64 60))) = X →
  KeepsOthers W X ∧ AAt X R 102 (List.replicate 4 0) ∧ Boxed X E 24 (.int .i64 60) ∧ Below w.heap.size w X := by
 rintro X rfl
 refine ⟨((((KeepsOthers.setCell _ _ _).trans (KeepsOthers.setCell _ _ _)).trans (KeepsOthers.setCell _ _ _)).trans (KeepsOthers.setCell _ _ _)).trans (KeepsOthers.setCell _ _ _), ?_, ?_, ?_⟩
 ·exact (z4 3 (z4 2 (z4 1 (z4 0 hR)))).setOther _ n
 ·exact Boxed.set _ (L9 _ (L9 _ (L9 _ (L9 _ hE (Ne.symm n)) (Ne.symm n)) (Ne.symm n)) (Ne.symm n))
 ·exact ((((hB.setCell (p := ⟨R, 0, none⟩) l1 _).setCell (p := ⟨R, 1, none⟩) l1 _).setCell (p := ⟨R, 2, none⟩) l1 _).setCell (p := ⟨R, 3, none⟩) l1 _).setCell (p := ⟨E, 0, none⟩) l2 _
theorem ag7 {w W : World} {R E : Nat} (a b c d : UInt8) (ev : Int) {xs : List UInt8} (hx : xs.length = 4) {eo : Value} (hR : AAt W R 102 xs) (hE : Boxed W E 24 eo) (hB : Below w.heap.size w W) (n : R ≠ E) (l1 : w.heap.size ≤ R) (l2 : w.heap.size ≤ E) :
  ∀ X, ((((((W.setCell ⟨R, 0, none⟩ (.int .u8 (a.toNat : Int))).setCell ⟨R, 1, none⟩ (.int .u8 (b.toNat : Int))).setCell ⟨R, 2, none⟩ (.int .u8 (c.toNat : Int))).setCell ⟨R, 3, none⟩ (.int .u8 (d.toNat : Int))).setCell ⟨E, 0, none⟩ (.int .i64 ev))) = X →
  KeepsOthers W X ∧ AAt X R 102 [a, b, c, d] ∧ Boxed X E 24 (.int .i64 ev) ∧ Below w.heap.size w X := by
 rintro X rfl
 refine ⟨((((KeepsOthers.setCell _ _ _).trans (KeepsOthers.setCell _ _ _)).trans (KeepsOthers.setCell _ _ _)).trans (KeepsOthers.setCell _ _ _)).trans (KeepsOthers.setCell _ _ _), ?_, ?_, ?_⟩
 ·have h := ((((hR.set 0 a.toNat a.toNat_lt).set 1 b.toNat b.toNat_lt).set 2 c.toNat c.toNat_lt).set 3 d.toNat d.toNat_lt).setOther (i := 0) (.int .i64 ev) n
  simp only [UInt8.ofNat_toNat] at h
  match xs, hx with
  | [p, q, r, t], _ => exact h
 ·exact Boxed.set _ (L9 _ (L9 _ (L9 _ (L9 _ hE (Ne.symm n)) (Ne.symm n)) (Ne.symm n)) (Ne.symm n))
 ·exact ((((hB.setCell (p := ⟨R, 0, none⟩) l1 _).setCell (p := ⟨R, 1, none⟩) l1 _).setCell (p := ⟨R, 2, none⟩) l1 _).setCell (p := ⟨R, 3, none⟩) l1 _).setCell (p := ⟨E, 0, none⟩) l2 _
theorem a2r (pre : List (Nat × List UInt8)) (x : Nat × List UInt8) : a0g (pre ++ [x]) ↔ a0g pre ∧ (k9 255 x.2).isSome = true ∧ x.1 < 4 := by
 unfold a0g
 constructor
 ·intro h
  exact ⟨fun p hp => h p (by simp [hp]), h x (by simp)⟩
 ·rintro ⟨h1, h2⟩ p hp
  rcases List.mem_append.1 hp with hp | hp
  ·exact h1 p hp
  ·simp only [List.mem_singleton] at hp
   subst hp
   exact h2
theorem a4H {α : Type} {i : Nat} {l : List α} {p : Nat × α} (h : p ∈ y7 i l) : p.1 < i + l.length ∧ p.2 ∈ l := by
 induction l generalizing i with
 | nil => cases h
 | cons x r ih =>
  rw [y7] at h
  rcases List.mem_cons.1 h with rfl | h
  ·simp
  ·have := ih h
   refine ⟨by simp only [List.length_cons]; omega, List.mem_cons_of_mem _ this.2⟩
theorem a3q {α β : Type} {f : α → Option β} {xs : List α} {vs : List β} (h : t7 f xs = some vs) : ∀ x ∈ xs, (f x).isSome = true := by
 intro x hx
 obtain ⟨i, hi, rfl⟩ := List.getElem_of_mem hx
 cases hf : f xs[i] with
 | none => rw [a2d hi hf] at h; cases h
 | some v => rfl
theorem a3p {α : Type} {f : α → Option Nat} {xs : List α} (h : ∀ x ∈ xs, (f x).isSome = true) : t7 f xs = some (xs.map fun x => (f x).getD 0) := by
 induction xs with
 | nil => rfl
 | cons x r ih =>
  have hx := h x (by simp)
  cases hf : f x with
  | none => rw [hf] at hx; cases hx
  | some v => simp only [t7, hf, ih (fun y hy => h y (by simp [hy])), List.map_cons, Option.bind_some, Option.map_some, Option.getD_some]
theorem a79 (s : List UInt8) (h : a0g (y7 0 (f9 46 s))) : (f9 46 s).length ≤ 4 ∧ ((f9 46 s).length = 4 → x1 s = some (W9 (y7 0 (f9 46 s)))) ∧ ((f9 46 s).length ≠ 4 → x1 s = none) := by
 refine ⟨?_, fun h4 => ?_, fun h4 => by rw [x1, if_neg h4]⟩
 ·rcases Nat.lt_or_ge 4 (f9 46 s).length with hl | hl
  ·have := (h _ (List.mem_of_getElem? (a4F 0 (f9 46 s) 4 hl))).2
   simp only at this
   omega
  ·exact hl
 ·have ha : ∀ x ∈ f9 46 s, (k9 255 x).isSome = true := fun x hx => by
   rw [← a2J 0 (f9 46 s)] at hx
   obtain ⟨p, hp, rfl⟩ := List.mem_map.1 hx
   exact (h p hp).1
  rw [x1, if_pos h4, a3p ha]
  generalize f9 46 s = ls at *
  match ls, h4 with
  | [a, b, c, d], _ => rfl
theorem a86 (s : List UInt8) {pre : List (Nat × List UInt8)} (hp : pre <+: y7 0 (f9 46 s)) (h : ¬ a0g pre) : x1 s = none := by
 rw [x1]
 split
 ·rename_i h4
  cases ha : t7 (k9 255) (f9 46 s) with
  | none => rfl
  | some ns =>
   exfalso
   refine h fun p hm => ?_
   have hm2 := a4H (hp.subset hm)
   exact ⟨a3q ha _ hm2.2, by omega⟩
 ·rfl
theorem a2Y {P : Program} {fn : Func} {p q : Tmp} {ty te : TypeId} (h : fn.results = #[.cell p ty, .cell q te]) (tmps : Array Value) (w : World) (g e : Nat) (xs : List UInt8) (n : Nat) (el : TypeId) (k : IntKind) (v : Int) (hp : tmps.getD p undef = .pointer (some ⟨g, 0, none⟩)) (hq : tmps.getD q undef = .pointer (some ⟨e, 0, none⟩)) (A : AAt w g ty xs) (B : Boxed w e te (.int k v))
  (hu : P.underlying ty = some (.array n el)) (hi : (P.info? ty).map (·.size) = some xs.length) (hv : P.underlying te = some (.int k)) : (results fn tmps).run P w = .ok (.tuple #[.agg (xs.map bv).toArray, .int k v]) w := by
 have hp' : tmps[p]?.getD undef = .pointer (some ⟨g, 0, none⟩) := by simpa using hp
 have hq' : tmps[q]?.getD undef = .pointer (some ⟨e, 0, none⟩) := by simpa using hq
 have h1 := run_loadVar_row (P := P) w g ty ty (xs.map bv).toArray (0, 0) _ A hu rfl (by rw [A5]; exact hi)
 have h2 : (loadVar te ⟨e, 0, none⟩).run P w = .ok (.int k v) w := by
  have hc := B.cell
  have hag : (isAgg te).run P w = .ok false w := run_isAgg_plain hv rfl w
  simp [loadVar, Sem.run_bind, hag, go_sem, hc]
 simp [results, h, hp', hq', asAddr, h1, h2, Sem.run_bind]
theorem a8r (s : ByteArray) (w : World) (hs : s.size ≤ 1048576) (T : x5 w) :
  Calls Tryz.prog 126 #[.string s] w fun e w' => e = .returned (.tuple #[X0 4 (x1 (sl s)), .int .i64 (X1 (x1 (sl s)))]) ∧ w.grownBy w' none := by
 have HT : Hid (x5 w) := T
 have h3 := T.size
 clear T
 refine (callsIn_wide (n := 3)).1 ?_
 refine callsIn_of_wp_marks Tryz.func126 rfl trivial ?_ rfl
 simp only [Tryz.ntmps126, List.size_toArray, List.length_cons, List.length_nil, Nat.reduceAdd, Nat.reduceSub, Array.replicate_succ, Array.replicate_zero, List.push_toArray, List.append_toArray, List.nil_append, List.cons_append]
 gi_wp2_with (refine ⟨trivial, ?_⟩; gi_at_call 129; refine (callsIn_wide.2 (a3t _ _ _)).mono ?_; rintro e w' ⟨rfl, rfl⟩)
 obtain ⟨W0, hW0⟩ : ∃ W0, ((((((w.alloc (.cells #[.int .u8 0, .int .u8 0, .int .u8 0, .int .u8 0] 102)).alloc (.cells #[.int .i64 0] 24)).alloc (.cells #[.int .u8 0, .int .u8 0, .int .u8 0, .int .u8 0] 102)).alloc (.cells #[.int .i64 0] 3)).alloc (.cells #[.string s] 9)).alloc (.cells #[.string ⟨#[46]⟩] 9)) = W0 := ⟨_, rfl⟩
 obtain ⟨fR, fE, fA, fF, fS, fM, G0, hsz⟩ := a8t w s ⟨#[46]⟩ W0 hW0
 rw [hW0]
 clear hW0
 obtain ⟨M, hM⟩ : ∃ k, w.heap.size + 1 + 1 + 1 + 1 + 1 = k := ⟨_, rfl⟩
 rw [hM] at fM ⊢
 obtain ⟨Bs, hBs⟩ : ∃ k, w.heap.size + 1 + 1 + 1 + 1 = k := ⟨_, rfl⟩
 rw [hBs] at fS ⊢
 obtain ⟨F, hF⟩ : ∃ k, w.heap.size + 1 + 1 + 1 = k := ⟨_, rfl⟩
 rw [hF] at fF ⊢
 obtain ⟨A, hA⟩ : ∃ k, w.heap.size + 1 + 1 = k := ⟨_, rfl⟩
 rw [hA] at fA ⊢
 obtain ⟨E, hE⟩ : ∃ k, w.heap.size + 1 = k := ⟨_, rfl⟩
 rw [hE] at fE ⊢
 obtain ⟨R, hR⟩ : ∃ k, w.heap.size = k := ⟨_, rfl⟩
 rw [show (Value.pointer (some ⟨w.heap.size, 0, none⟩)) = .pointer (some ⟨R, 0, none⟩) by rw [hR]]
 rw [hR] at fR
 have ne : Hid (M ≠ A ∧ M ≠ F ∧ M ≠ R ∧ M ≠ E ∧ A ≠ F ∧ A ≠ R ∧ A ≠ E ∧ F ≠ R ∧ F ≠ E ∧ R ≠ E ∧ w.heap.size ≤ A ∧ w.heap.size ≤ F ∧ w.heap.size ≤ R ∧ w.heap.size ≤ E) := by
  refine ⟨?_, ?_, ?_, ?_, ?_, ?_, ?_, ?_, ?_, ?_, ?_, ?_, ?_, ?_⟩ <;> omega
 clear hM hBs hF hA hE hR
 have hle : w.heap.size ≤ W0.heap.size := G0.size
 have HS := j0 s
 refine wpIn_rangeFunc_ownF rfl (by omega) (gf := 134) (lb := #[.pointer (some ⟨Bs, 0, none⟩), .pointer (some ⟨M, 0, none⟩)]) rfl trivial (enters_of Tryz.func134 (by kernel_rfl) rfl)
  (a4U _ (by omega) Bs M w.heap.size (fun k => k = M) 46 (sl s) (by omega) (.inl rfl) h3 W0 (HT.out.grown G0) (by rw [← K0]; exact fS.cell) fM.cell)
  (fun h k => h.trans k) (Kp.book hle) (Below.refl _ _) (fun _ => rfl)
  (I4 w R E A F) (X4 w R E) (a5G w R E A F _ hle) (fun c => a5L w R E _ hle c)
  ⟨⟨(fun p hp => absurd hp (by simp)), fA, fF, fR, fE⟩, a1z G0⟩
  (fun x => { tmps := #[.string s, undef, .pointer (some ⟨R, 0, none⟩), .pointer (some ⟨E, 0, none⟩), .pointer (some ⟨A, 0, none⟩), .pointer (some ⟨F, 0, none⟩), .int .i64 (x.1 : Int), str x.2, undef, undef, .string s, .func (.func 134) #[] #[.pointer (some ⟨Bs, 0, none⟩), .pointer (some ⟨M, 0, none⟩)], .int .i64 (x.1 : Int), str x.2, undef, undef, undef, undef, undef, undef, undef, undef, undef, undef, undef, undef, undef, undef, undef, undef, undef, undef, undef, undef, undef], defers := [] }) ?assign ?body ?done ?stop
 case assign =>
  intro l x W K hK
  gi_wp2
  exact hK
 case body =>
  rintro l pre ⟨i, t⟩ W ⟨⟨hg, hA, hF, hRr, hEe⟩, hB⟩ hlen
  have hO := a8i ⟨t.toArray⟩ W
  have hlt := a3u pre
  have hcR0 := hRr.cell (i := 0) (by decide)
  have hcR1 := hRr.cell (i := 1) (by decide)
  have hcR2 := hRr.cell (i := 2) (by decide)
  have hcR3 := hRr.cell (i := 3) (by decide)
  have fr0 := hRr.free 0
  have fr1 := hRr.free 1
  have fr2 := hRr.free 2
  have fr3 := hRr.free 3
  have hcE := hEe.cell
  have frE := hEe.frozen
  have hcF := hF.cell
  have frF := hF.frozen
  simp only [List.getElem_replicate] at hcR0 hcR1 hcR2 hcR3
  obtain ⟨n1, n2, n3, n4, n5, n6, n7, n8, n9, n10, l1, l2, l3, l4⟩ := ne.out
  have n10' : E ≠ R := Ne.symm n10
  cases hn : k9 255 t with
  | none =>
   have CO : Calls Tryz.prog 130 #[str t] W fun e w' => (∃ n : Nat, e = .returned (.tuple #[.int .u8 (n : Int), .bool false])) ∧ W = w' := hO.mono (by
    rintro e w' ⟨⟨n, rfl, -, -⟩, rfl⟩
    rw [show k9 255 (sl ⟨t.toArray⟩) = none from hn]
    exact ⟨⟨n, rfl⟩, rfl⟩)
   clear hO
   gi_wp2_with (refine ⟨trivial, ?_⟩; gi_at_call 130; refine (CallsIn.inRound l (callsIn_wide.2 CO)).mono ?_; rintro e w' ⟨⟨n, rfl⟩, rfl⟩)
   obtain ⟨k1, k2, k3, k4⟩ := a2X hRr hEe hB n10 l3 l4 _ rfl
   exact ⟨k1, ⟨rfl, fun h => (by have := ((a2r _ _).1 h).2.1; rw [show k9 255 (i, t).2 = none from hn] at this; cases this), k2, k3⟩, k4⟩
  | some u =>
   have hu : u ≤ 255 := a4L hn
   have CO : Calls Tryz.prog 130 #[str t] W fun e w' => e = .returned (.tuple #[.int .u8 (u : Int), .bool true]) ∧ W = w' := hO.mono (by
    rintro e w' ⟨⟨n, rfl, -, hnu⟩, rfl⟩
    have hn' : k9 255 (sl ⟨t.toArray⟩) = some u := hn
    obtain rfl := hnu u hn'
    rw [hn']
    exact ⟨rfl, rfl⟩)
   clear hO
   by_cases hi4 : 4 ≤ i
   ·have hi4' : (4 : Int) ≤ (i : Int) := by omega
    gi_wp2_with (refine ⟨trivial, ?_⟩; gi_at_call 130; refine (CallsIn.inRound l (callsIn_wide.2 CO)).mono ?_; rintro e w' ⟨rfl, rfl⟩)
    obtain ⟨k1, k2, k3, k4⟩ := a2X hRr hEe hB n10 l3 l4 _ rfl
    exact ⟨k1, ⟨rfl, fun h => (by have := ((a2r _ _).1 h).2.2; simp only at this; omega), k2, k3⟩, k4⟩
   ·have hi4' : ¬ (4 : Int) ≤ (i : Int) := by omega
    have hil : i < 4 := by omega
    have hil' : (i : Int) < 4 := by omega
    have hcA : W.cell? ⟨A, i, none⟩ = some (.int .u8 (((W9 pre)[i]'(by omega)).toNat : Int)) := hA.cell (i := i) (by omega)
    generalize ((W9 pre)[i]'(by omega)).toNat = old at hcA
    have frA := hA.free i
    have hw : IntKind.u8.wrap (u : Int) = u := by rw [IntKind.wrap_u8]; omega
    have A2 := hA.set i u (by omega)
    have B2 := L9 (i := i) (.int .u8 (u : Int)) hF (Ne.symm n5)
    have cF2 := B2.cell
    have fF2 := B2.frozen
    have hpl : pre.length ≤ 1048577 := by
     have := a1r 46 [] (sl s)
     unfold f9 at hlen
     omega
    have hM : Kp w.heap.size (fun k => k = M) W ((W.setCell ⟨A, i, none⟩ (.int .u8 (u : Int))).setCell ⟨F, 0, none⟩ (.int .i64 ((pre.length : Int) + 1))) := by
     refine ⟨((Below.refl _ _).setCell (p := ⟨A, i, none⟩) l1 _).setCell (p := ⟨F, 0, none⟩) l2 _, ?_⟩
     rintro k o rfl ho -
     rw [heap_setCell_other _ _ _ _ (show k ≠ F from n2), heap_setCell_other _ _ _ _ (show k ≠ A from n1)]
     exact ho
    clear hcR0 hcR1 hcR2 hcR3 fr0 fr1 fr2 fr3 hcE frE hcF frF
    gi_wp2_with (refine ⟨trivial, ?_⟩; gi_at_call 130; refine (CallsIn.inRound l (callsIn_wide.2 CO)).mono ?_; rintro e w' ⟨rfl, rfl⟩)
    refine ⟨(KeepsOthers.setCell _ _ _).trans (KeepsOthers.setCell _ _ _), hM, ⟨(a2r _ _).2 ⟨hg, by rw [show k9 255 (i, t).2 = some u from hn]; rfl, hil⟩, ?_, ?_, ?_, ?_⟩, ?_⟩
    ·rw [a5Q, show k9 255 (i, t).2 = some u from hn]
     exact A2.setOther _ n5
    ·rw [List.length_append, show ((pre.length + [(i, t)].length : Nat) : Int) = (pre.length : Int) + 1 by simp]
     exact B2.set _
    ·exact (hRr.setOther _ (Ne.symm n6)).setOther _ (Ne.symm n8)
    ·exact L9 _ (L9 _ hEe (Ne.symm n7)) (Ne.symm n9)
    ·exact (hB.setCell (p := ⟨A, i, none⟩) l1 _).setCell (p := ⟨F, 0, none⟩) l2 _
 case done =>
  rintro D xs W hD rfl ⟨⟨hg, hA, hF, hRr, hEe⟩, hB⟩ hK
  obtain ⟨g1, g2, g3⟩ := a79 (sl s) hg
  have hcF := hF.cell
  rw [a4G] at hcF
  have hcR0 := hRr.cell (i := 0) (by decide)
  have hcR1 := hRr.cell (i := 1) (by decide)
  have hcR2 := hRr.cell (i := 2) (by decide)
  have hcR3 := hRr.cell (i := 3) (by decide)
  have fr0 := hRr.free 0
  have fr1 := hRr.free 1
  have fr2 := hRr.free 2
  have fr3 := hRr.free 3
  have hcE := hEe.cell
  have frE := hEe.frozen
  simp only [List.getElem_replicate] at hcR0 hcR1 hcR2 hcR3
  obtain ⟨n1, n2, n3, n4, n5, n6, n7, n8, n9, n10, l1, l2, l3, l4⟩ := ne.out
  have n10' : E ≠ R := Ne.symm n10
  have hlA := a3u (y7 0 (f9 46 (sl s)))
  clear hF fA fF fR fE fM fS
  by_cases h4 : (f9 46 (sl s)).length = 4
  ·have HN : Hid (x1 (sl s) = some (W9 (y7 0 (f9 46 (sl s))))) := g2 h4
   rw [h4] at hcF
   rw [show (((4 : Nat) : Int)) = 4 from rfl] at hcF
   clear g1 g2 g3 hg h4
   generalize W9 (y7 0 (f9 46 (sl s))) = ys at *
   obtain ⟨a, b, c, d, rfl⟩ : ∃ a b c d, ys = [a, b, c, d] := by
    match ys, hlA with
    | [a, b, c, d], _ => exact ⟨a, b, c, d, rfl⟩
   have hcA0 : W.cell? ⟨A, 0, none⟩ = some (.int .u8 (a.toNat : Int)) := hA.cell (i := 0) (by simp)
   have hcA1 : W.cell? ⟨A, 1, none⟩ = some (.int .u8 (b.toNat : Int)) := hA.cell (i := 1) (by simp)
   have hcA2 : W.cell? ⟨A, 2, none⟩ = some (.int .u8 (c.toNat : Int)) := hA.cell (i := 2) (by simp)
   have hcA3 : W.cell? ⟨A, 3, none⟩ = some (.int .u8 (d.toNat : Int)) := hA.cell (i := 3) (by simp)
   gi_wp2
   obtain ⟨X, hX⟩ : ∃ X, ((((((W.setCell ⟨R, 0, none⟩ (.int .u8 (a.toNat : Int))).setCell ⟨R, 1, none⟩ (.int .u8 (b.toNat : Int))).setCell ⟨R, 2, none⟩ (.int .u8 (c.toNat : Int))).setCell ⟨R, 3, none⟩ (.int .u8 (d.toNat : Int))).setCell ⟨E, 0, none⟩ (.int .i64 0))) = X := ⟨_, rfl⟩
   rw [hX]
   obtain ⟨k1, k2, k3, k4⟩ := ag7 a b c d 0 rfl hRr hEe hB n10 l3 l4 X hX
   clear hX
   have hK' := k1.same D _ hK rfl
   refine ⟨by simp, .inl ⟨_, _, rfl, run_takeDeferred hK', ?_⟩⟩
   have hr : ∀ r, some D = some r → ∃ o : Obj, X.heap[r]? = some o ∧ o.isCells = false := fun r e => by cases e; exact ⟨_, hK', rfl⟩
   refine ⟨_, a2Y rfl _ _ R E [a, b, c, d] 4 5 .i64 0 rfl rfl (a0y k2 (grownBy_putObj' _ D (.deferred none)) hr) (E5 k3 (grownBy_putObj' _ D (.deferred none)) hr) Tryz.underlying102 T2 Tryz.underlying24, ?_, ?_⟩
   ·rw [HN.out]; rfl
   ·exact a0h (k4.trans (belowK_b (w := w) (Nat.le_refl _) _ D _ _ (by omega) hK' rfl rfl))
  ·have HN : Hid (x1 (sl s) = none) := g3 h4
   have h4' : (((f9 46 (sl s)).length : Int) != 4) = true := by rw [bne_iff_ne]; omega
   clear g2 g3 hg h4
   generalize (f9 46 (sl s)).length = N at *
   gi_wp2
   obtain ⟨X, hX⟩ : ∃ X, ((((((W.setCell ⟨R, 0, none⟩ (.int .u8 0)).setCell ⟨R, 1, none⟩ (.int .u8 0)).setCell ⟨R, 2, none⟩ (.int .u8 0)).setCell ⟨R, 3, none⟩ (.int .u8 0)).setCell ⟨E, 0, none⟩ (.int .i64 60))) = X := ⟨_, rfl⟩
   rw [hX]
   obtain ⟨k1, k2, k3, k4⟩ := a2X hRr hEe hB n10 l3 l4 X hX
   clear hX
   have hK' := k1.same D _ hK rfl
   refine ⟨by simp, .inl ⟨_, _, rfl, run_takeDeferred hK', ?_⟩⟩
   have hr : ∀ r, some D = some r → ∃ o : Obj, X.heap[r]? = some o ∧ o.isCells = false := fun r e => by cases e; exact ⟨_, hK', rfl⟩
   refine ⟨_, a2Y rfl _ _ R E (List.replicate 4 0) 4 5 .i64 60 rfl rfl (a0y k2 (grownBy_putObj' _ D (.deferred none)) hr) (E5 k3 (grownBy_putObj' _ D (.deferred none)) hr) Tryz.underlying102 T2 Tryz.underlying24, ?_, ?_⟩
   ·rw [HN.out]; rfl
   ·exact a0h (k4.trans (belowK_b (w := w) (Nat.le_refl _) _ D _ _ (by omega) hK' rfl rfl))
 case stop =>
  rintro D c pre W hD hpre ⟨⟨rfl, hbad, hRr, hEe⟩, hB⟩ hK
  have HN : Hid (x1 (sl s) = none) := a86 (sl s) hpre hbad
  gi_wp2
  refine ⟨by simp, .inl ⟨_, _, rfl, run_takeDeferred hK, ?_⟩⟩
  have hr : ∀ r, some D = some r → ∃ o : Obj, W.heap[r]? = some o ∧ o.isCells = false := fun r e => by cases e; exact ⟨_, hK, rfl⟩
  refine ⟨_, a2Y rfl _ _ R E (List.replicate 4 0) 4 5 .i64 60 rfl rfl (a0y hRr (grownBy_putObj' _ D (.deferred none)) hr) (E5 hEe (grownBy_putObj' _ D (.deferred none)) hr) Tryz.underlying102 T2 Tryz.underlying24, ?_, ?_⟩
  ·rw [HN.out]; rfl
  ·exact a0h (hB.trans (belowK_b (w := w) (Nat.le_refl _) W D _ _ (by omega) hK rfl rfl))

end Go.Proofs.YtlfmddjppejmaaaGreatDoor
