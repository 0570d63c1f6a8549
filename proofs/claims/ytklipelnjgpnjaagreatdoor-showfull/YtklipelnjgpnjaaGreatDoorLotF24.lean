import Derived.Test.YtklipelnjgpnjaaGreatDoorLotF23
import Derived.Test.YtklipelnjgpnjaaGreatDoorLotF21
namespace Go.Proofs.YtklipelnjgpnjaaGreatDoor
open Go.RowKit
set_option maxRecDepth 100000
abbrev Ky := Nat × List UInt8 × Nat
def Tk.ky (t : Tk) : Ky := (t.kind, t.text, t.num)
def kW (x : List UInt8) : Ky := (2, x, 0)
def kS (x : List UInt8) : Ky := (5, x, 0)
def kN (n : Nat) : Ky := (1, dec n, n)
def kA (x : Ng) : Ky := (if x.of = 3 then 4 else 3, adrT x, 0)
def sideK (k : Int) : List Ky := if k = 1 then [kW wSrc] else if k = 2 then [kW wDst] else []
def leafK (x : Ng) : List Ky :=
 if x.kind = 1 then [kN x.n]
 else if x.kind = 2 then [kW wLen]
 else if x.kind = 10 then [kW (if x.side = 1 then wInbound else wOutbound)]
 else if x.kind = 11 then [kW (nameT x.of)]
 else if x.kind = 12 then [kW wProto, kN x.n]
 else if x.kind = 13 then [kW (nameT x.of), kW wProto, kN x.n]
 else if x.kind = 14 then sideK x.side ++ [kW wHost, kA x]
 else if x.kind = 15 then sideK x.side ++ [kW wNet, kA x, kS [47], kN x.bits.toNat]
 else (if x.of = 0 then [] else [kW (nameT x.of)]) ++ sideK x.side ++ (if x.n = x.m then [kW wPort, kN x.n] else [kW wPortrange, kN x.n, kS [45], kN x.m])
def signK (x : Ng) : Ky := if x.kind = 7 then kW wAnd else if x.kind = 8 then kW wOr else if x.kind = 6 then kS (relT x.op) else kS (opT13 x.op)
def sizeK (n : Int) : List Ky := if n = 1 then [] else [kS [58], kN n.toNat]
def putK (want : Bool) (l : List Ky) : List Ky := if want = true then kS [40] :: (l ++ [kS [41]]) else l
def Tr.ky (full : Bool) : Tr → List Ky
 | .leaf x => leafK x
 | .one x p =>
  if x.kind = 3 then kW (nameT x.of) :: kS [91] :: (p.ky full ++ (sizeK x.size ++ [kS [93]]))
  else (if x.kind = 9 then kW wNot else kS [45]) :: putK (wantT full (rowG p.root) (rowG x)) (p.ky full)
 | .two x p q => putK (wantT full (rowG p.root) (if rowG x = 4 then 5 else rowG x)) (p.ky full) ++ signK x :: putK (wantT full (rowG q.root) (rowG x + 1)) (q.ky full)
theorem in_le {a lo hi : Int} (h : inG a lo hi = true) : lo ≤ a ∧ a ≤ hi := by
 unfold inG at h
 have := Bool.and_eq_true_iff.1 h
 exact ⟨of_decide_eq_true this.1, of_decide_eq_true this.2⟩
def LexS (s : List UInt8) (ks : List Ky) (c : List UInt8 → Prop) : Prop := ∀ (p : Nat) (r : List UInt8) (us : List Tk), c r → lexR (p + s.length) r = .ok us → ∃ A, lexR p (s ++ r) = .ok (A ++ us) ∧ A.map Tk.ky = ks
theorem LexS.mono {s : List UInt8} {ks : List Ky} {c d : List UInt8 → Prop} (h : LexS s ks c) (hc : ∀ r, d r → c r) : LexS s ks d := fun p r us hr hu => h p r us (hc r hr) hu
theorem dig_six {c : UInt8} (h : isDig c = true) : c ≠ 58 ∧ c ≠ 46 ∧ wordB c = true ∧ quadB c = true ∧ c ≠ 120 := by
 refine ⟨?_, ?_, ?_, ?_, ?_⟩
 ·rintro rfl; revert h; decide
 ·rintro rfl; revert h; decide
 ·unfold wordB; rw [h]; rfl
 ·unfold quadB; rw [h]; rfl
 ·rintro rfl; revert h; decide
theorem join_mem {b : UInt8} : ∀ {ls : List (List UInt8)} {c : UInt8}, c ∈ joinV b ls → c = b ∨ ∃ l ∈ ls, c ∈ l
 | [], c, h => by cases h
 | [x], c, h => .inr ⟨x, by simp, by rw [joinV_one] at h; exact h⟩
 | x :: y :: r, c, h => by
  rw [joinV_cons] at h
  rcases List.mem_append.1 h with h | h
  ·exact .inr ⟨x, by simp, h⟩
  ·rcases List.mem_cons.1 h with h | h
   ·exact .inl h
   ·rcases join_mem h with h | ⟨l, hl, h⟩
    ·exact .inl h
    ·exact .inr ⟨l, List.mem_cons_of_mem _ hl, h⟩
theorem tok_four {a : List UInt8} (h : a.length = 4) : tokV (print4V a) = .ok (3, print4V a, 0) := by
 have hlt : ∀ x : UInt8, x.toNat < 10 ^ 20 := fun x => by have := x.toNat_lt; omega
 have hm : ∀ c ∈ print4V a, c = 46 ∨ isDig c = true := fun c hc => by
  rcases join_mem hc with h | ⟨l, hl, h⟩
  ·exact .inl h
  ·obtain ⟨x, -, rfl⟩ := List.mem_map.1 hl
   exact .inr (dec_dig _ (hlt x) c h)
 have hc : ¬ 2 ≤ ((print4V a).takeWhile sixB).count 58 := by
  have : ((print4V a).takeWhile sixB).count 58 = 0 := List.count_eq_zero.2 (fun hq => by
   rcases hm _ ((List.takeWhile_sublist _).subset hq) with h | h
   ·revert h; decide
   ·revert h; decide)
  omega
 have hq : (print4V a).takeWhile quadB = print4V a := takeWhile_all quadB _ (fun c hc => by
  rcases hm c hc with rfl | h
  ·decide
  ·exact (dig_six h).2.2.2.1)
 match a, h with
 | [x, y, z, u], _ =>
  have hp : print4V [x, y, z, u] = dec x.toNat ++ 46 :: joinV 46 [dec y.toNat, dec z.toNat, dec u.toNat] := by
   unfold print4V
   rw [List.map_cons, List.map_cons, joinV_cons]
   rfl
  have hh : (print4V [x, y, z, u]).head?.any isDig = true := by
   rw [hp]
   have h1 := dec_ne x.toNat (hlt x)
   have h2 := dec_dig x.toNat (hlt x)
   generalize dec x.toNat = s at *
   cases s with
   | nil => exact absurd rfl h1
   | cons c r => exact h2 c (List.mem_cons_self ..)
  have h46 : 46 ∈ print4V [x, y, z, u] := by rw [hp]; simp
  unfold tokV
  rw [if_neg hc, if_pos hh, hq, if_pos h46]
theorem join_count : ∀ (ls : List (List UInt8)), ls.length ≤ (joinV 58 ls).count 58 + 1
 | [] => by decide
 | [x] => by simp
 | x :: y :: r => by
  have := join_count (y :: r)
  rw [joinV_cons, List.count_append, List.count_cons]
  simp only [List.length_cons] at this ⊢
  simp
  omega
theorem strip_mem : ∀ {l : List UInt8} {c : UInt8}, c ∈ stripV l → c ∈ l
 | [], c, h => h
 | a :: r, c, h => by
  unfold stripV at h
  split at h
  ·exact List.mem_cons_of_mem _ (strip_mem h)
  ·exact h
theorem short_six {g : Nat} {c : UInt8} (h : c ∈ shortV g) : sixB c = true := by
 have h := strip_mem h
 have key : ∀ n, n < 16 → sixB (hexD n) = true := fun n hn => by
  unfold sixB
  rw [(hexD_dig hn).1]
  rfl
 unfold fullV at h
 simp only [List.mem_cons, List.not_mem_nil, or_false] at h
 rcases h with rfl | rfl | rfl | rfl
 ·exact key _ (Nat.mod_lt _ (by decide))
 ·exact key _ (Nat.mod_lt _ (by decide))
 ·exact key _ (Nat.mod_lt _ (by decide))
 ·exact key _ (Nat.mod_lt _ (by decide))
theorem sptok_six {gs : List Nat} (h8 : gs.length = 8) : tokV (print6V gs) = .ok (4, print6V gs, 0) := by
 have hj : ∀ (l : List Nat) (c : UInt8), c ∈ joinV 58 (l.map shortV) → sixB c = true := fun l c hc => by
  rcases join_mem hc with rfl | ⟨x, hx, h⟩
  ·decide
  ·obtain ⟨g, -, rfl⟩ := List.mem_map.1 hx
   exact short_six h
 have hm : (∀ c ∈ print6V gs, sixB c = true) ∧ 2 ≤ (print6V gs).count 58 := by
  unfold print6V
  cases bestF 0 gs none with
  | none =>
   refine ⟨hj gs, ?_⟩
   have := join_count (gs.map shortV)
   rw [List.length_map, h8] at this
   show 2 ≤ (joinV 58 (gs.map shortV)).count 58
   omega
  | some p =>
   refine ⟨fun c hc => ?_, ?_⟩
   ·rcases List.mem_append.1 hc with h | h
    ·exact hj _ c h
    ·rcases List.mem_cons.1 h with rfl | h
     ·decide
     ·rcases List.mem_cons.1 h with rfl | h
      ·decide
      ·exact hj _ c h
   ·show 2 ≤ (joinV 58 ((gs.take p.1).map shortV) ++ (58 :: 58 :: joinV 58 ((gs.drop (p.1 + p.2)).map shortV))).count 58
    rw [List.count_append, List.count_cons, List.count_cons]
    simp
    omega
 have hw := takeWhile_all sixB (print6V gs) hm.1
 unfold tokV
 rw [hw, if_pos hm.2]

end Go.Proofs.YtklipelnjgpnjaaGreatDoor
