import Derived.Test.YtghbbephhoniaaaGreatDoorLotP7
import Derived.Test.YtghbbephhoniaaaGreatDoorLotP6
import Derived.Test.YtghbbephhoniaaaGreatDoorLotP3
import Derived.Test.YtghbbephhoniaaaGreatDoorLotP1
namespace Go.Proofs.YtghbbephhoniaaaGreatDoor
open Go.RowKit
set_option maxRecDepth 100000
structure PL (w wr : World) (g8 c8 g9 c9 G n : Nat) (ss : List Nat) (last : Nat) (pss : List (List Ng)) (us : List Value) : Prop where
 grown : w.grownBy wr none
 starts : TsOwns wr w.heap.size (.slice (some ⟨g8, 0, none⟩) ss.length c8) ss
 ends : wr.ownsRow w.heap.size 3 1 (.slice (some ⟨g9, 0, none⟩) (ss.length + 1) c9) (ss.length + 1) ((ss ++ [last]).map sv)
 row : wr.ownsRow w.heap.size 31 1 (.slice (some ⟨G, 0, none⟩) n n) n (us ++ List.replicate (n - us.length) tynilV)
 each : ∀ j, j < us.length → NgOwns wr w.heap.size (us.getD j tynilV) (pss.getD j [])
 apart : ∀ i j, i < j → j < us.length → ∀ x, (us.getD i tynilV).ownBlock = some x → (us.getD j tynilV).ownBlock ≠ some x
section
variable {w wr wr' : World} {g8 c8 g9 c9 G n : Nat} {ss : List Nat} {last : Nat} {pss : List (List Ng)} {us : List Value}
theorem PL.keep (h : PL w wr g8 c8 g9 c9 G n ss last pss us) (K : wr.grownBy wr' none) : PL w wr' g8 c8 g9 c9 G n ss last pss us :=
 { h with grown := grown_trans h.grown K, starts := owns_keptNone h.starts K, ends := owns_keptNone h.ends K, row := owns_keptNone h.row K, each := fun j hj => owns_keptNone (h.each j hj) K }

end
theorem left_cons {x : Ng} {r : List Ng} {n m : Nat} (h : leftG n (x :: r) = some m) : ∃ a, arG x.kind = some a ∧ ¬ n < a ∧ leftG (n - a + 1) r = some m := by
 simp only [leftG] at h
 split at h
 ·cases h
 ·rename_i a ha
  split at h
  ·cases h
  ·rename_i hn
   exact ⟨a, ha, hn, h⟩
theorem left_app : ∀ (p s : List Ng) (n m : Nat), leftG n (p ++ s) = some m → ∃ k, leftG n p = some k ∧ leftG k s = some m
 | [], s, n, m, h => ⟨n, rfl, h⟩
 | x :: r, s, n, m, h => by
  obtain ⟨a, ha, hn, h⟩ := left_cons (r := r ++ s) h
  obtain ⟨k, h1, h2⟩ := left_app r s _ m h
  refine ⟨k, ?_, h2⟩
  simp only [leftG, ha, if_neg hn]
  exact h1
theorem left_frame : ∀ (l : List Ng) (n m c : Nat), leftG n l = some m → leftG (n + c) l = some (m + c)
 | [], n, m, c, h => by cases h; rfl
 | x :: r, n, m, c, h => by
  obtain ⟨a, ha, hn, h⟩ := left_cons h
  have := left_frame r _ m c h
  simp only [leftG, ha]
  rw [if_neg (by omega), show n + c - a + 1 = n - a + 1 + c by omega]
  exact this
theorem left_join : ∀ (p s : List Ng) (n k m : Nat), leftG n p = some k → leftG k s = some m → leftG n (p ++ s) = some m
 | [], s, n, k, m, h, h2 => by cases h; exact h2
 | x :: r, s, n, k, m, h, h2 => by
  obtain ⟨a, ha, hn, h⟩ := left_cons h
  simp only [List.cons_append, leftG, ha, if_neg hn]
  exact left_join r s _ k m h h2
theorem left_flat : ∀ ps : List (List Ng), (∀ q ∈ ps, leftG 0 q = some 1) → leftG 0 ps.flatten = some ps.length
 | [], _ => rfl
 | q :: r, h => by
  rw [List.flatten_cons]
  refine left_join q r.flatten 0 1 _ (h q List.mem_cons_self) ?_
  have := left_frame r.flatten 0 r.length 1 (left_flat r fun z hz => h z (List.mem_cons_of_mem _ hz))
  simpa using this
def rowG (x : Ng) : Int :=
 if x.kind = 8 then 1 else if x.kind = 7 then 2 else if x.kind = 9 then 3 else if x.kind = 6 then 4 else if x.kind = 5 then 11 else if x.kind ≠ 4 then 12
 else if x.op = 7 then 5 else if x.op = 8 then 6 else if x.op = 6 then 7 else if x.op = 9 ∨ x.op = 10 then 8 else if x.op = 1 ∨ x.op = 2 then 9 else 10
def nameT (k : Int) : List UInt8 :=
 if k = 1 then [112, 112, 112] else if k = 2 then [105, 112] else if k = 3 then [105, 112, 54] else if k = 4 then [116, 99, 112] else if k = 5 then [117, 100, 112] else if k = 6 then [105, 99, 109, 112] else if k = 7 then [105, 99, 109, 112, 54] else if k = 8 then [108, 99, 112] else if k = 9 then [112, 97, 112] else if k = 10 then [99, 104, 97, 112] else if k = 11 then [105, 112, 99, 112] else if k = 12 then [105, 112, 54, 99, 112] else if k = 13 then [109, 112] else []
def relT (k : Int) : List UInt8 :=
 if k = 1 then [61] else if k = 2 then [33, 61] else if k = 3 then [60] else if k = 4 then [60, 61] else if k = 5 then [62] else if k = 6 then [62, 61] else []
def opT13 (k : Int) : List UInt8 :=
 if k = 1 then [43] else if k = 2 then [45] else if k = 3 then [42] else if k = 4 then [47] else if k = 5 then [37] else if k = 6 then [38] else if k = 7 then [124] else if k = 8 then [94] else if k = 9 then [60, 60] else if k = 10 then [62, 62] else []
def signT (x : Ng) : List UInt8 := if x.kind = 7 then [97, 110, 100] else if x.kind = 8 then [111, 114] else if x.kind = 6 then relT x.op else opT13 x.op
def sideT (k : Int) : List UInt8 := if k = 1 then [115, 114, 99, 32] else if k = 2 then [100, 115, 116, 32] else []
def adrT (x : Ng) : List UInt8 := if x.of = 3 then print6V (pairsG (adgs x)) else print4V ((adgs x).take 4)
def leafT (x : Ng) : List UInt8 :=
 if x.kind = 1 then dec x.n
 else if x.kind = 2 then [108, 101, 110]
 else if x.kind = 10 then (if x.side = 1 then [105, 110, 98, 111, 117, 110, 100] else [111, 117, 116, 98, 111, 117, 110, 100])
 else if x.kind = 11 then nameT x.of
 else if x.kind = 12 then [112, 114, 111, 116, 111, 32] ++ dec x.n
 else if x.kind = 13 then nameT x.of ++ [32, 112, 114, 111, 116, 111, 32] ++ dec x.n
 else if x.kind = 14 then sideT x.side ++ [104, 111, 115, 116, 32] ++ adrT x
 else if x.kind = 15 then sideT x.side ++ [110, 101, 116, 32] ++ adrT x ++ [47] ++ dec x.bits.toNat
 else (if x.of = 0 then [] else nameT x.of ++ [32]) ++ sideT x.side ++ (if x.n = x.m then [112, 111, 114, 116, 32] ++ dec x.n else [112, 111, 114, 116, 114, 97, 110, 103, 101, 32] ++ dec x.n ++ [45] ++ dec x.m)
def sizeT (n : Int) : List UInt8 := if n = 1 then [] else [58] ++ dec n.toNat

inductive Tr where
 | leaf (x : Ng)
 | one (x : Ng) (p : Tr)
 | two (x : Ng) (p q : Tr)
def Tr.root : Tr → Ng
 | .leaf x => x
 | .one x _ => x
 | .two x _ _ => x
def Tr.flat : Tr → List Ng
 | .leaf x => [x]
 | .one x p => p.flat ++ [x]
 | .two x p q => p.flat ++ q.flat ++ [x]
def Tr.Wf : Tr → Prop
 | .leaf x => arG x.kind = some 0
 | .one x p => arG x.kind = some 1 ∧ p.Wf
 | .two x p q => arG x.kind = some 2 ∧ p.Wf ∧ q.Wf
def putT (want : Bool) (r : List UInt8 × Nat) : List UInt8 × Nat := if want = true then ([40] ++ r.1 ++ [41], r.2 + 1) else r
def wantT (full : Bool) (row least : Int) : Bool := (full && decide (row < 12)) || decide (row < least)
def Tr.txt (full : Bool) : Tr → List UInt8 × Nat
 | .leaf x => (leafT x, 0)
 | .one x p =>
  if x.kind = 3 then (nameT x.of ++ [91] ++ (p.txt full).1 ++ sizeT x.size ++ [93], (p.txt full).2 + 1)
  else ((if x.kind = 9 then [110, 111, 116, 32] else [45]) ++ (putT (wantT full (rowG p.root) (rowG x)) (p.txt full)).1, (putT (wantT full (rowG p.root) (rowG x)) (p.txt full)).2 + 1)
 | .two x p q =>
  ((putT (wantT full (rowG p.root) (if rowG x = 4 then 5 else rowG x)) (p.txt full)).1 ++ [32] ++ signT x ++ [32] ++ (putT (wantT full (rowG q.root) (rowG x + 1)) (q.txt full)).1,
   max (putT (wantT full (rowG p.root) (if rowG x = 4 then 5 else rowG x)) (p.txt full)).2 (putT (wantT full (rowG q.root) (rowG x + 1)) (q.txt full)).2)
theorem Tr.flat_last (T : Tr) : ∃ l, T.flat = l ++ [T.root] := by
 cases T with
 | leaf x => exact ⟨[], rfl⟩
 | one x p => exact ⟨p.flat, rfl⟩
 | two x p q => exact ⟨p.flat ++ q.flat, rfl⟩
theorem Tr.flat_ne (T : Tr) : T.flat ≠ [] := by
 obtain ⟨l, h⟩ := T.flat_last
 rw [h]
 simp
theorem Tr.flat_left : ∀ {T : Tr}, T.Wf → leftG 0 T.flat = some 1
 | .leaf x, h => by
  have h : arG x.kind = some 0 := h
  simp [Tr.flat, leftG, h]
 | .one x p, h => by
  obtain ⟨h1, h2⟩ : arG x.kind = some 1 ∧ p.Wf := h
  refine left_join p.flat [x] 0 1 1 (Tr.flat_left h2) ?_
  simp [leftG, h1]
 | .two x p q, h => by
  obtain ⟨h1, h2, h3⟩ : arG x.kind = some 2 ∧ p.Wf ∧ q.Wf := h
  refine left_join (p.flat ++ q.flat) [x] 0 2 1 (left_join p.flat q.flat 0 1 2 (Tr.flat_left h2) ?_) ?_
  ·exact left_frame q.flat 0 1 1 (Tr.flat_left h3)
  ·simp [leftG, h1]
theorem Tr.flat_inj : ∀ {T U : Tr}, T.Wf → U.Wf → T.flat = U.flat → T = U := by
 have key : ∀ (T U : Tr) (a b : List Ng), T.Wf → U.Wf → a ++ T.flat = b ++ U.flat → T = U ∧ a = b := by
  intro T
  induction T with
  | leaf x =>
   intro U a b hT hU h
   cases U with
   | leaf y =>
    simp only [Tr.flat] at h
    have := List.append_inj' h rfl
    exact ⟨by rw [show x = y by simpa using this.2], this.1⟩
   | one y p =>
    simp only [Tr.flat, ← List.append_assoc] at h
    have := List.append_inj' h rfl
    have hxy : x = y := by simpa using this.2
    have h1 : arG x.kind = some 0 := hT
    have h2 : arG y.kind = some 1 := hU.1
    rw [hxy, h2] at h1
    cases h1
   | two y p q =>
    simp only [Tr.flat, ← List.append_assoc] at h
    have := List.append_inj' h rfl
    have hxy : x = y := by simpa using this.2
    have h1 : arG x.kind = some 0 := hT
    have h2 : arG y.kind = some 2 := hU.1
    rw [hxy, h2] at h1
    cases h1
  | one x p ih =>
   intro U a b hT hU h
   cases U with
   | leaf y =>
    simp only [Tr.flat, ← List.append_assoc] at h
    have := List.append_inj' h rfl
    have hxy : x = y := by simpa using this.2
    have h1 : arG x.kind = some 1 := hT.1
    have h2 : arG y.kind = some 0 := hU
    rw [hxy, h2] at h1
    cases h1
   | one y q =>
    simp only [Tr.flat, ← List.append_assoc] at h
    have := List.append_inj' h rfl
    obtain ⟨e1, e2⟩ := ih q a b hT.2 hU.2 this.1
    exact ⟨by rw [e1, show x = y by simpa using this.2], e2⟩
   | two y q r =>
    simp only [Tr.flat, ← List.append_assoc] at h
    have := List.append_inj' h rfl
    have hxy : x = y := by simpa using this.2
    have h1 : arG x.kind = some 1 := hT.1
    have h2 : arG y.kind = some 2 := hU.1
    rw [hxy, h2] at h1
    cases h1
  | two x p q ihp ihq =>
   intro U a b hT hU h
   cases U with
   | leaf y =>
    simp only [Tr.flat, ← List.append_assoc] at h
    have := List.append_inj' h rfl
    have hxy : x = y := by simpa using this.2
    have h1 : arG x.kind = some 2 := hT.1
    have h2 : arG y.kind = some 0 := hU
    rw [hxy, h2] at h1
    cases h1
   | one y r =>
    simp only [Tr.flat, ← List.append_assoc] at h
    have := List.append_inj' h rfl
    have hxy : x = y := by simpa using this.2
    have h1 : arG x.kind = some 2 := hT.1
    have h2 : arG y.kind = some 1 := hU.1
    rw [hxy, h2] at h1
    cases h1
   | two y r s =>
    simp only [Tr.flat, ← List.append_assoc] at h
    have := List.append_inj' h rfl
    obtain ⟨e1, e2⟩ := ihq s (a ++ p.flat) (b ++ r.flat) hT.2.2 hU.2.2 this.1
    obtain ⟨e3, e4⟩ := ihp r a b hT.2.1 hU.2.1 e2
    exact ⟨by rw [e1, e3, show x = y by simpa using this.2], e4⟩
 intro T U hT hU h
 exact (key T U [] [] hT hU (by rw [h])).1
set_option maxRecDepth 100000 in
set_option maxHeartbeats 8000000 in
theorem row13_any (x : Ng) (w : World) : Calls Tryz.prog 33 #[.agg x.cells.toArray] w fun e w' => e = .returned (.int .i64 (rowG x)) ∧ w.grownBy w' none := by
 have HBX := box_ng x
 have h3 := World.grownBy_alloc w (.cells x.cells.toArray 28) none
 have V := NB.alloc w x
 obtain ⟨E, hE⟩ : ∃ E : Int, rowG x = E := ⟨_, rfl⟩
 rw [hE]
 have HE : Hid (rowG x = E) := hE
 obtain ⟨X, hX⟩ : ∃ X, x.cells.toArray = X := ⟨_, rfl⟩
 rw [hX] at HBX ⊢
 clear hE
 go_enter Tryz.func33, Tryz.ntmps33
 go_upto_region 1 with fail
 rw [← hX] at *
 generalize w.alloc (.cells x.cells.toArray 28) = w1 at *
 generalize w.heap.size = B at *
 have c0 := V.kind
 have c1 := V.op
 obtain ⟨kk, hkk⟩ : ∃ kk, x.kind = kk := ⟨_, rfl⟩
 have HK : Hid (x.kind = kk) := hkk
 obtain ⟨oo, hoo⟩ : ∃ oo, x.op = oo := ⟨_, rfl⟩
 have HO : Hid (x.op = oo) := hoo
 rw [hkk] at c0
 rw [hoo] at c1
 clear HBX hX X V hkk hoo
 have hc : kk = 8 ∨ kk = 7 ∨ kk = 9 ∨ kk = 6 ∨ kk = 5 ∨ kk = 4 ∨ ¬ (4 ≤ kk ∧ kk ≤ 9) := by omega
 rcases hc with rfl | rfl | rfl | rfl | rfl | rfl | hn
 ·obtain rfl : E = 1 := by rw [← HE.out]; unfold rowG; rw [HK.out]; rfl
  go_wp2
  go_ret
  exact ⟨rfl, h3⟩
 ·obtain rfl : E = 2 := by rw [← HE.out]; unfold rowG; rw [HK.out]; rfl
  go_wp2
  go_ret
  exact ⟨rfl, h3⟩
 ·obtain rfl : E = 3 := by rw [← HE.out]; unfold rowG; rw [HK.out]; rfl
  go_wp2
  go_ret
  exact ⟨rfl, h3⟩
 ·obtain rfl : E = 4 := by rw [← HE.out]; unfold rowG; rw [HK.out]; rfl
  go_wp2
  go_ret
  exact ⟨rfl, h3⟩
 ·obtain rfl : E = 11 := by rw [← HE.out]; unfold rowG; rw [HK.out]; rfl
  go_wp2
  go_ret
  exact ⟨rfl, h3⟩
 ·have ho : oo = 7 ∨ oo = 8 ∨ oo = 6 ∨ oo = 9 ∨ oo = 10 ∨ oo = 1 ∨ oo = 2 ∨ ¬ (oo = 1 ∨ oo = 2 ∨ (6 ≤ oo ∧ oo ≤ 10)) := by omega
  rcases ho with rfl | rfl | rfl | rfl | rfl | rfl | rfl | hn
  ·obtain rfl : E = 5 := by rw [← HE.out]; unfold rowG; rw [HK.out, HO.out]; rfl
   go_wp2
   go_ret
   exact ⟨rfl, h3⟩
  ·obtain rfl : E = 6 := by rw [← HE.out]; unfold rowG; rw [HK.out, HO.out]; rfl
   go_wp2
   go_ret
   exact ⟨rfl, h3⟩
  ·obtain rfl : E = 7 := by rw [← HE.out]; unfold rowG; rw [HK.out, HO.out]; rfl
   go_wp2
   go_ret
   exact ⟨rfl, h3⟩
  ·obtain rfl : E = 8 := by rw [← HE.out]; unfold rowG; rw [HK.out, HO.out]; rfl
   go_wp2
   go_ret
   exact ⟨rfl, h3⟩
  ·obtain rfl : E = 8 := by rw [← HE.out]; unfold rowG; rw [HK.out, HO.out]; rfl
   go_wp2
   go_ret
   exact ⟨rfl, h3⟩
  ·obtain rfl : E = 9 := by rw [← HE.out]; unfold rowG; rw [HK.out, HO.out]; rfl
   go_wp2
   go_ret
   exact ⟨rfl, h3⟩
  ·obtain rfl : E = 9 := by rw [← HE.out]; unfold rowG; rw [HK.out, HO.out]; rfl
   go_wp2
   go_ret
   exact ⟨rfl, h3⟩
  ·obtain rfl : E = 10 := by
    rw [← HE.out]
    unfold rowG
    rw [HK.out, HO.out]
    repeat rw [if_neg (by omega)]
   have u1 : (oo == 1) = false := by rw [beq_eq_false_iff_ne]; omega
   have u2 : (oo == 2) = false := by rw [beq_eq_false_iff_ne]; omega
   have u6 : (oo == 6) = false := by rw [beq_eq_false_iff_ne]; omega
   have u7 : (oo == 7) = false := by rw [beq_eq_false_iff_ne]; omega
   have u8 : (oo == 8) = false := by rw [beq_eq_false_iff_ne]; omega
   have u9 : (oo == 9) = false := by rw [beq_eq_false_iff_ne]; omega
   have u10 : (oo == 10) = false := by rw [beq_eq_false_iff_ne]; omega
   clear hn
   go_wp2
   go_ret
   exact ⟨rfl, h3⟩
 ·obtain rfl : E = 12 := by
   rw [← HE.out]
   unfold rowG
   rw [HK.out]
   rw [if_neg (by omega), if_neg (by omega), if_neg (by omega), if_neg (by omega), if_neg (by omega), if_pos (by omega)]
  have u4 : (kk == 4) = false := by rw [beq_eq_false_iff_ne]; omega
  have u5 : (kk == 5) = false := by rw [beq_eq_false_iff_ne]; omega
  have u6 : (kk == 6) = false := by rw [beq_eq_false_iff_ne]; omega
  have u7 : (kk == 7) = false := by rw [beq_eq_false_iff_ne]; omega
  have u8 : (kk == 8) = false := by rw [beq_eq_false_iff_ne]; omega
  have u9 : (kk == 9) = false := by rw [beq_eq_false_iff_ne]; omega
  have v4 : (kk != 4) = true := by rw [bne_iff_ne]; omega
  clear hn
  go_wp2
  go_ret
  exact ⟨rfl, h3⟩
set_option maxRecDepth 100000 in
set_option maxHeartbeats 1000000 in
theorem refprint4_any (xs : List UInt8) (w : World) (h4 : xs.length = 4) :
  Calls Tryz.prog 48 #[.agg (xs.map bv).toArray] w fun e w' => e = .returned (str (print4V xs)) ∧ w.grownBy w' none := by
 have H4 : Hid (xs.length = 4) := h4
 clear h4
 go_enter Tryz.func48, Tryz.ntmps48
 go_upto_region 1 with fail
 have A0 := AAt.alloc w 87 xs
 have G0 := World.grownBy_alloc w (.cells (xs.map bv).toArray 87) none
 generalize w.alloc (.cells (xs.map bv).toArray 87) = wa at *
 generalize w.heap.size = A at *
 have HA0 : Hid (AAt wa A 87 xs) := A0
 clear A0
 go_wp2
 go_loopw [3, 4] (fun x i wr => ∃ (j : Nat) (t : List UInt8), j ≤ 4 ∧ i = .int .i64 j ∧ x = str t ∧ t.length ≤ 21 * j ∧ Hid (t = joinV 46 ((xs.take j).map fun x => dec x.toNat)) ∧ wa.grownBy wr none) (fun _ i _ => 4 - (intOf i).toNat)
 case atStart => exact ⟨0, [], Nat.zero_le _, rfl, rfl, Nat.le_refl _, rfl, World.grownBy.refl _ _⟩
 case round =>
  obtain ⟨j, t, hj, rfl, rfl, htl, HT, G⟩ := hrel
  by_cases hlt : j < 4
  ·have hlt' : (j : Int) < 4 := by omega
   have hl4 : j < xs.length := by have := H4.out; omega
   have hc := (HA0.out.grown G (by simp)).cell hl4
   have hd := dec_len xs[j].toNat
   have hb := xs[j].toNat_lt
   have HJ : Hid (joinV 46 ((xs.take (j + 1)).map fun x => dec x.toNat) = if (xs.take j).map (fun x => dec x.toNat) = [] then dec xs[j].toNat else joinV 46 ((xs.take j).map fun x => dec x.toNat) ++ (46 :: dec xs[j].toNat)) := by
    show _ = _
    rw [List.take_succ_eq_append_getElem hl4, List.map_append, List.map_cons, List.map_nil, join_snoc]
   have HNil : Hid (((xs.take j).map (fun x => dec x.toNat) = []) ↔ j = 0) := by
    show _ ↔ _
    rw [List.map_eq_nil_iff, List.take_eq_nil_iff]
    constructor
    ·rintro (h | h)
     ·exact h
     ·rw [h] at hl4; simp at hl4
    ·exact .inl
   generalize xs[j].toNat = n at *
   by_cases h0 : j = 0
   ·subst h0
    have HN : Hid (dec n = joinV 46 ((xs.take (0 + 1)).map fun x => dec x.toNat)) := by
     show dec n = _
     rw [HJ.out, if_pos (HNil.out.2 rfl)]
    have ht0 : t = [] := by rw [HT.out]; rfl
    subst ht0
    clear HJ HNil HT
    rw [show ((0 : Nat) : Int) = 0 from rfl]
    go_wp2_with (go_at_call 46; refine (decimal_any n _ (by omega)).mono ?_; rintro e w' ⟨rfl, K⟩)
    go_roundw
    case rel => exact ⟨1, dec n, by omega, by go_num, by rw [cat]; rfl, by omega, HN, grown_trans G K⟩
    case measure => simp [intOf]
   ·have h0' : (0 : Int) < (j : Int) := by omega
    have HN : Hid (t ++ ([46] ++ dec n) = joinV 46 ((xs.take (j + 1)).map fun x => dec x.toNat)) := by
     show _ = _
     rw [HJ.out, if_neg (fun e => h0 (HNil.out.1 e)), ← HT.out]
     rfl
    clear HJ HNil HT
    go_wp2_with (go_at_call 46; refine (decimal_any n _ (by omega)).mono ?_; rintro e w' ⟨rfl, K⟩)
    go_roundw
    case rel => exact ⟨j + 1, t ++ ([46] ++ dec n), by omega, by go_num, by rw [cat, cat, List.append_assoc], by simp; omega, HN, grown_trans G K⟩
    case measure => simp [intOf]; omega
  ·obtain rfl : j = 4 := by omega
   have hp : print4V xs = t := by
    rw [HT.out, print4V, List.take_of_length_le (by have := H4.out; omega)]
   have HP : Hid (print4V xs = t) := hp
   clear hp HT
   rw [show ((4 : Nat) : Int) = 4 from rfl]
   go_wp2
   go_ret
   exact ⟨by rw [HP.out]; rfl, grown_trans G0 G⟩

end Go.Proofs.YtghbbephhoniaaaGreatDoor
