import Derived.Test.YtklipelnjgpnjaaGreatDoorLotN13
namespace Go.Proofs.YtklipelnjgpnjaaGreatDoor
open Go.RowKit
set_option maxRecDepth 100000
def a5d (k : Nat) (B : List Tk) : Prop := af0 B ∧ ∀ j, k ≤ j → opT j B = none
theorem a5d.up {k l : Nat} {B : List Tk} (h : a5d k B) (hl : k ≤ l) : a5d l B := ⟨h.1, fun j hj => h.2 j (by omega)⟩
def a5a (x : Ng) : Prop := U9 x = true ∧ m4 x = 0 ∧ x.addr.length = 16
def Tr.Good (T : Tr) : Prop := T.Wf ∧ ∀ x ∈ T.flat, a5a x
theorem Tr.Good.one {x : Ng} {p : Tr} (h : (Tr.one x p).Good) : arG x.kind = some 1 ∧ a5a x ∧ p.Good :=
 ⟨h.1.1, h.2 x (by simp [Tr.flat]), h.1.2, fun y hy => h.2 y (by simp [Tr.flat, hy])⟩
theorem Tr.Good.two {x : Ng} {p q : Tr} (h : (Tr.two x p q).Good) : arG x.kind = some 2 ∧ a5a x ∧ p.Good ∧ q.Good :=
 ⟨h.1.1, h.2 x (by simp [Tr.flat]), ⟨h.1.2.1, fun y hy => h.2 y (by simp [Tr.flat, hy])⟩, ⟨h.1.2.2, fun y hy => h.2 y (by simp [Tr.flat, hy])⟩⟩
def a21 (s : List UInt8) (ks : List Ky) (c : List UInt8 → Prop) : Prop := ∀ (p : Nat) (r : List UInt8) (us : List Tk), c r → J6 (p + s.length) r = .ok us → ∃ A, J6 p (s ++ r) = .ok (A ++ us) ∧ A.map Tk.ky = ks
theorem a21.mono {s : List UInt8} {ks : List Ky} {c d : List UInt8 → Prop} (h : a21 s ks c) (hc : ∀ r, d r → c r) : a21 s ks d := fun p r us hr hu => h p r us (hc r hr) hu
theorem a21.app {s t : List UInt8} {ks ls : List Ky} {c d : List UInt8 → Prop} (h1 : a21 s ks c) (h2 : a21 t ls d) (hc : ∀ r, d r → c (t ++ r)) : a21 (s ++ t) (ks ++ ls) d := fun p r us hr hu => by
 obtain ⟨B, b1, b2⟩ := h2 (p + s.length) r us hr (by rw [Nat.add_assoc, ← List.length_append]; exact hu)
 obtain ⟨A, a1, a2⟩ := h1 p (t ++ r) (B ++ us) (hc r hr) b1
 exact ⟨A ++ B, by rw [List.append_assoc, a1, List.append_assoc], by rw [List.map_append, a2, b2]⟩
theorem ao8 {c : UInt8} (h : H9 c = true) : c ≠ 58 ∧ c ≠ 46 ∧ j9 c = true ∧ t8 c = true ∧ c ≠ 120 := by
 refine ⟨?_, ?_, ?_, ?_, ?_⟩
 ·rintro rfl; revert h; decide
 ·rintro rfl; revert h; decide
 ·unfold j9; rw [h]; rfl
 ·unfold t8; rw [h]; rfl
 ·rintro rfl; revert h; decide
theorem a5T {b : UInt8} : ∀ {ls : List (List UInt8)} {c : UInt8}, c ∈ o7 b ls → c = b ∨ ∃ l ∈ ls, c ∈ l
 | [], c, h => by cases h
 | [x], c, h => .inr ⟨x, by simp, by rw [a8B] at h; exact h⟩
 | x :: y :: r, c, h => by
  rw [a5S] at h
  rcases List.mem_append.1 h with h | h
  ·exact .inr ⟨x, by simp, h⟩
  ·rcases List.mem_cons.1 h with h | h
   ·exact .inl h
   ·rcases a5T h with h | ⟨l, hl, h⟩
    ·exact .inl h
    ·exact .inr ⟨l, List.mem_cons_of_mem _ hl, h⟩
theorem ac2 {a : List UInt8} (h : a.length = 4) : o6 (T3 a) = .ok (3, T3 a, 0) := by
 have hlt : ∀ x : UInt8, x.toNat < 10 ^ 20 := fun x => by have := x.toNat_lt; omega
 have hm : ∀ c ∈ T3 a, c = 46 ∨ H9 c = true := fun c hc => by
  rcases a5T hc with h | ⟨l, hl, h⟩
  ·exact .inl h
  ·obtain ⟨x, -, rfl⟩ := List.mem_map.1 hl
   exact .inr (a5s _ (hlt x) c h)
 have hc : ¬ 2 ≤ ((T3 a).takeWhile m7).count 58 := by
  have : ((T3 a).takeWhile m7).count 58 = 0 := List.count_eq_zero.2 (fun hq => by
   rcases hm _ ((List.takeWhile_sublist _).subset hq) with h | h
   ·revert h; decide
   ·revert h; decide)
  omega
 have hq : (T3 a).takeWhile t8 = T3 a := ab4 t8 _ (fun c hc => by
  rcases hm c hc with rfl | h
  ·decide
  ·exact (ao8 h).2.2.2.1)
 match a, h with
 | [x, y, z, u], _ =>
  have hp : T3 [x, y, z, u] = dec x.toNat ++ 46 :: o7 46 [dec y.toNat, dec z.toNat, dec u.toNat] := by
   unfold T3
   rw [List.map_cons, List.map_cons, a5S]
   rfl
  have hh : (T3 [x, y, z, u]).head?.any H9 = true := by
   rw [hp]
   have h1 := a7N x.toNat (hlt x)
   have h2 := a5s x.toNat (hlt x)
   generalize dec x.toNat = s at *
   cases s with
   | nil => exact absurd rfl h1
   | cons c r => exact h2 c (List.mem_cons_self ..)
  have h46 : 46 ∈ T3 [x, y, z, u] := by rw [hp]; simp
  unfold o6
  rw [if_neg hc, if_pos hh, hq, if_pos h46]
theorem a8C : ∀ (ls : List (List UInt8)), ls.length ≤ (o7 58 ls).count 58 + 1
 | [] => by decide
 | [x] => by simp
 | x :: y :: r => by
  have := a8C (y :: r)
  rw [a5S, List.count_append, List.count_cons]
  simp only [List.length_cons] at this ⊢
  simp
  omega
theorem ab2 : ∀ {l : List UInt8} {c : UInt8}, c ∈ a1m l → c ∈ l
 | [], c, h => h
 | a :: r, c, h => by
  unfold a1m at h
  split at h
  ·exact List.mem_cons_of_mem _ (ab2 h)
  ·exact h
theorem aS2 {g : Nat} {c : UInt8} (h : c ∈ j6 g) : m7 c = true := by
 have h := ab2 h
 have key : ∀ n, n < 16 → m7 (D9 n) = true := fun n hn => by
  unfold m7
  rw [(a2S hn).1]
  rfl
 unfold a25 at h
 simp only [List.mem_cons, List.not_mem_nil, or_false] at h
 rcases h with rfl | rfl | rfl | rfl
 ·exact key _ (Nat.mod_lt _ (by decide))
 ·exact key _ (Nat.mod_lt _ (by decide))
 ·exact key _ (Nat.mod_lt _ (by decide))
 ·exact key _ (Nat.mod_lt _ (by decide))
theorem aa6 {gs : List Nat} (h8 : gs.length = 8) : o6 (a01 gs) = .ok (4, a01 gs, 0) := by
 have hj : ∀ (l : List Nat) (c : UInt8), c ∈ o7 58 (l.map j6) → m7 c = true := fun l c hc => by
  rcases a5T hc with rfl | ⟨x, hx, h⟩
  ·decide
  ·obtain ⟨g, -, rfl⟩ := List.mem_map.1 hx
   exact aS2 h
 have hm : (∀ c ∈ a01 gs, m7 c = true) ∧ 2 ≤ (a01 gs).count 58 := by
  unfold a01
  cases U7 0 gs none with
  | none =>
   refine ⟨hj gs, ?_⟩
   have := a8C (gs.map j6)
   rw [List.length_map, h8] at this
   show 2 ≤ (o7 58 (gs.map j6)).count 58
   omega
  | some p =>
   refine ⟨fun c hc => ?_, ?_⟩
   ·rcases List.mem_append.1 hc with h | h
    ·exact hj _ c h
    ·rcases List.mem_cons.1 h with rfl | h
     ·decide
     ·rcases List.mem_cons.1 h with rfl | h
      ·decide
      ·exact hj _ c h
   ·show 2 ≤ (o7 58 ((gs.take p.1).map j6) ++ (58 :: 58 :: o7 58 ((gs.drop (p.1 + p.2)).map j6))).count 58
    rw [List.count_append, List.count_cons, List.count_cons]
    simp
    omega
 have hw := ab4 m7 (a01 gs) hm.1
 unfold o6
 rw [hw, if_pos hm.2]

end Go.Proofs.YtklipelnjgpnjaaGreatDoor
