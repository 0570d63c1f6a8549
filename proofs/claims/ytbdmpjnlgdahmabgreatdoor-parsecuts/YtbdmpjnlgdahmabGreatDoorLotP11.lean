/-
  Tokens in memory: four cells each; SameTokens, SpoilTokens. The document's own Lex. Package lex as landed: kinds of bytes, and what the runs' closures say of a byte.
-/
import Derived.Test.YtbdmpjnlgdahmabGreatDoorLotP4
import Derived.Test.YtbdmpjnlgdahmabGreatDoorLotP3
import Derived.Test.YtbdmpjnlgdahmabGreatDoorLotP1
import Derived.Test.YtbdmpjnlgdahmabGreatDoorLotP10
namespace Go.Proofs.YtbdmpjnlgdahmabGreatDoor
open Go.RowKit
set_option maxRecDepth 100000

def Tk.cells (x : Tk) : List Value := [.int .i64 (x.kind : Int), .int .i64 (x.pos : Int), str x.text, .int .u32 (x.num : Int)]

/-- The cells of a list of them. -/
def flatT (xs : List Tk) : List Value := xs.flatMap Tk.cells

theorem flatT_nil : flatT [] = [] := rfl
theorem flatT_cons (x : Tk) (xs : List Tk) : flatT (x :: xs) = x.cells ++ flatT xs := rfl
theorem flatT_append (xs ys : List Tk) : flatT (xs ++ ys) = flatT xs ++ flatT ys := by simp only [flatT, List.flatMap_append]

theorem flatT_len (xs : List Tk) : (flatT xs).length = xs.length * 4 := by
  induction xs with
  | nil => rfl
  | cons x xs ih => rw [flatT_cons, List.length_append, ih, List.length_cons]; simp [Tk.cells]; omega

theorem flatT_get (xs : List Tk) (i j : Nat) (hi : i < xs.length) (hj : j < 4) : (flatT xs)[i * 4 + j]? = (xs[i].cells)[j]? := by
  induction xs generalizing i with
  | nil => simp at hi
  | cons x xs ih =>
    rw [flatT_cons]
    have hl : x.cells.length = 4 := rfl
    cases i with
    | zero => rw [List.getElem?_append_left (by omega)]; simp
    | succ i =>
      rw [List.getElem?_append_right (by omega), hl, show (i + 1) * 4 + j - 4 = i * 4 + j by omega, ih i (by simpa using hi)]
      simp

theorem flatT_one (xs : List Tk) : ∀ u ∈ flatT xs, u.oneCell' = true := by
  intro u hu
  obtain ⟨x, _, hx⟩ := List.mem_flatMap.1 hu
  simp only [Tk.cells, List.mem_cons, List.not_mem_nil, or_false] at hx
  rcases hx with rfl | rfl | rfl | rfl <;> rfl

theorem CV.toks {w : World} {ao : Option Addr} {xs : List Tk} (h : CV w ao (flatT xs)) {k : Nat} (hk : k < xs.length) :
    ∃ b off, ao = some ⟨b, off, none⟩ ∧ ∀ i (hi : i < xs.length), w.cell? ⟨b, off + i * 4, none⟩ = some (.int .i64 (xs[i].kind : Int)) ∧ w.cell? ⟨b, off + i * 4 + 1, none⟩ = some (.int .i64 (xs[i].pos : Int)) ∧
      w.cell? ⟨b, off + i * 4 + 2, none⟩ = some (str xs[i].text) ∧ w.cell? ⟨b, off + i * 4 + 3, none⟩ = some (.int .u32 (xs[i].num : Int)) := by
  have hl := flatT_len xs
  obtain ⟨b, off, hao, hc⟩ := h.addr (k := k * 4) (by omega)
  refine ⟨b, off, hao, fun i hi => ?_⟩
  have key : ∀ j (hj : j < 4), w.cell? ⟨b, off + i * 4 + j, none⟩ = (xs[i].cells)[j]? := fun j hj => by
    rw [← flatT_get xs i j hi hj, Nat.add_assoc, hc (i * 4 + j) (by omega), List.getElem?_eq_getElem (by omega)]
  exact ⟨key 0 (by omega), key 1 (by omega), key 2 (by omega), key 3 (by omega)⟩

theorem info33 : (Tryz.prog.info? 33).map (fun i => (i.zero, i.size, i.bytes)) = some (some (.agg #[.int .i64 0, .int .i64 0, .string .empty, .int .u32 0]), 4, 40) := by kernel_rfl
/-- An owned row of tokens. -/
abbrev TOwns (w : World) (base : Nat) (v : Value) (xs : List Tk) : Prop := w.ownsRow base 33 4 v xs.length (flatT xs)

/-- The two loops of SpoilTokens, behind its append. -/
def TSpoilRel (w : World) (row : Option Nat) (g g' n n' : Nat) (wr : World) : Prop := BlkN wr 33 g n ∧ BlkN wr 33 g' n' ∧ w.grownBy wr row
theorem TSpoilRel.set {w wr : World} {row : Option Nat} {g g' n n' : Nat} (h : TSpoilRel w row g g' n n' wr) {p : Addr} (hp : row = some p.block ∨ w.heap.size ≤ p.block) (u : Value) : TSpoilRel w row g g' n n' (wr.setCell p u) :=
  ⟨h.1.setCell _ _, h.2.1.setCell _ _, grown_setCell h.2.2 _ _ hp⟩

end Go.Proofs.YtbdmpjnlgdahmabGreatDoor

namespace Go.Proofs.YtbdmpjnlgdahmabGreatDoor
open Go.RowKit
set_option maxRecDepth 100000

/-- What Lex tells: the tokens, the place, the error. -/
def lexT (x : Except (Nat × Int) (List Tk)) : List Tk := match x with
  | .ok ts => ts
  | .error _ => []
def lexP (x : Except (Nat × Int) (List Tk)) : Nat := match x with
  | .ok _ => 0
  | .error e => e.1
def lexE (x : Except (Nat × Int) (List Tk)) : Int := match x with
  | .ok _ => 0
  | .error e => e.2
def glue (us : List Tk) (x : Except (Nat × Int) (List Tk)) : Except (Nat × Int) (List Tk) := match x with
  | .ok ts => .ok (us ++ ts)
  | .error e => .error e

theorem tok_er {s : List UInt8} {e : Int} (h : tokV s = .error e) : (e != 0) = true := by
  unfold tokV at h
  split at h
  · cases h
  · split at h
    · split at h
      · cases h
      · split at h
        · cases h; rfl
        · cases h
    · split at h
      · cases h
      · split at h
        · cases h; rfl
        · cases h

end Go.Proofs.YtbdmpjnlgdahmabGreatDoor

namespace Go.Proofs.YtbdmpjnlgdahmabGreatDoor
open Go.RowKit
set_option maxRecDepth 100000

def kindN (n : Nat) : Nat :=
  if n = 32 ∨ n = 9 ∨ n = 10 ∨ n = 13 then 1 else if 48 ≤ n ∧ n ≤ 57 then 2 else if 97 ≤ n ∧ n ≤ 102 then 3 else if 103 ≤ n ∧ n ≤ 122 then 4 else if n = 58 then 5 else if n = 46 then 6 else 0

theorem ret_knd {a b : Int} (h : a = b) : Ending.returned (.int .i64 a) = .returned (.int .i64 b) := by rw [h]

set_option maxHeartbeats 1000000 in
theorem kind_any (n : Nat) (w : World) :
    Calls Tryz.prog 13 #[.int .u8 (n : Int)] w fun e w' => e = .returned (.int .i64 (kindN n : Int)) ∧ w = w' := by
  have e1 : ∀ k : Nat, ((n : Int) == (k : Int)) = decide (n = k) := fun k => by
    by_cases h : n = k
    · subst h; simp
    · rw [beq_eq_false_iff_ne.2 (by omega), decide_eq_false h]
  have d32 := e1 32
  have d9 := e1 9
  have d10 := e1 10
  have d13 := e1 13
  have d58 := e1 58
  have d46 := e1 46
  clear e1
  unfold kindN
  by_cases hb : n = 32 ∨ n = 9 ∨ n = 10 ∨ n = 13
  · rw [if_pos hb]
    rcases hb with rfl | rfl | rfl | rfl <;>
    · go_enter Tryz.func13, Tryz.ntmps13
      go_wp2
      go_ret
      exact ⟨rfl, rfl⟩
  rw [if_neg hb]
  have b32 : ((n : Int) == 32) = false := by rw [beq_eq_false_iff_ne]; omega
  have b9 : ((n : Int) == 9) = false := by rw [beq_eq_false_iff_ne]; omega
  have b10 : ((n : Int) == 10) = false := by rw [beq_eq_false_iff_ne]; omega
  have b13 : ((n : Int) == 13) = false := by rw [beq_eq_false_iff_ne]; omega
  clear d32 d9 d10 d13 d58 d46 hb
  by_cases hd : 48 ≤ n ∧ n ≤ 57
  · rw [if_pos hd]
    have i1 : (48 : Int) ≤ (n : Int) := by omega
    have i2 : (n : Int) ≤ 57 := by omega
    clear hd
    go_enter Tryz.func13, Tryz.ntmps13
    go_wp2
    go_ret
    exact ⟨rfl, rfl⟩
  rw [if_neg hd]
  by_cases hx : 97 ≤ n ∧ n ≤ 102
  · rw [if_pos hx]
    have i1 : (48 : Int) ≤ (n : Int) := by omega
    have i2 : ¬ (n : Int) ≤ 57 := by omega
    have i3 : (97 : Int) ≤ (n : Int) := by omega
    have i4 : (n : Int) ≤ 102 := by omega
    clear hd hx
    go_enter Tryz.func13, Tryz.ntmps13
    go_wp2
    go_ret
    exact ⟨rfl, rfl⟩
  rw [if_neg hx]
  by_cases hl : 103 ≤ n ∧ n ≤ 122
  · rw [if_pos hl]
    have i1 : (48 : Int) ≤ (n : Int) := by omega
    have i2 : ¬ (n : Int) ≤ 57 := by omega
    have i3 : (97 : Int) ≤ (n : Int) := by omega
    have i4 : ¬ (n : Int) ≤ 102 := by omega
    have i5 : (103 : Int) ≤ (n : Int) := by omega
    have i6 : (n : Int) ≤ 122 := by omega
    clear hd hx hl
    go_enter Tryz.func13, Tryz.ntmps13
    go_wp2
    go_ret
    exact ⟨rfl, rfl⟩
  rw [if_neg hl]
  by_cases h58 : n = 58
  · rw [if_pos h58]
    subst h58
    clear b32 b9 b10 b13 hd hx hl
    go_enter Tryz.func13, Tryz.ntmps13
    go_wp2
    go_ret
    exact ⟨rfl, rfl⟩
  rw [if_neg h58]
  have b58 : ((n : Int) == 58) = false := by rw [beq_eq_false_iff_ne]; omega
  by_cases h46 : n = 46
  · rw [if_pos h46]
    subst h46
    clear b32 b9 b10 b13 hd hx hl b58
    go_enter Tryz.func13, Tryz.ntmps13
    go_wp2
    go_ret
    exact ⟨rfl, rfl⟩
  rw [if_neg h46]
  have b46 : ((n : Int) == 46) = false := by rw [beq_eq_false_iff_ne]; omega
  have c1 : (decide ((48 : Int) ≤ (n : Int)) && decide ((n : Int) ≤ 57)) = false := by simp; omega
  have c2 : (decide ((97 : Int) ≤ (n : Int)) && decide ((n : Int) ≤ 102)) = false := by simp; omega
  have c3 : (decide ((103 : Int) ≤ (n : Int)) && decide ((n : Int) ≤ 122)) = false := by simp; omega
  have hs : n < 48 ∨ (57 < n ∧ n < 97) ∨ 122 < n := by omega
  clear h58 h46 hl c1 c2 c3
  rcases hs with h | ⟨h, h'⟩ | h
  · have i1 : ¬ (48 : Int) ≤ (n : Int) := by omega
    have i3 : ¬ (97 : Int) ≤ (n : Int) := by omega
    have i5 : ¬ (103 : Int) ≤ (n : Int) := by omega
    clear hd hx h
    go_enter Tryz.func13, Tryz.ntmps13
    go_wp2
    go_ret
    exact ⟨rfl, rfl⟩
  · have i1 : (48 : Int) ≤ (n : Int) := by omega
    have i2 : ¬ (n : Int) ≤ 57 := by omega
    have i3 : ¬ (97 : Int) ≤ (n : Int) := by omega
    have i5 : ¬ (103 : Int) ≤ (n : Int) := by omega
    clear hd hx h h'
    go_enter Tryz.func13, Tryz.ntmps13
    go_wp2
    go_ret
    exact ⟨rfl, rfl⟩
  · have i1 : (48 : Int) ≤ (n : Int) := by omega
    have i2 : ¬ (n : Int) ≤ 57 := by omega
    have i3 : (97 : Int) ≤ (n : Int) := by omega
    have i4 : ¬ (n : Int) ≤ 102 := by omega
    have i5 : (103 : Int) ≤ (n : Int) := by omega
    have i6 : ¬ (n : Int) ≤ 122 := by omega
    clear hd hx h
    go_enter Tryz.func13, Tryz.ntmps13
    go_wp2
    go_ret
    exact ⟨rfl, rfl⟩

theorem kind_blank (c : UInt8) : ((kindN c.toNat : Int) == 1) = blankB c := by
  have h : ∀ k : Fin 256, ((kindN k.1 : Int) == 1) = blankB (UInt8.ofNat k.1) := by decide +kernel
  have := h ⟨c.toNat, c.toNat_lt⟩
  simpa using this
theorem kind_is (c : UInt8) : kindN c.toNat ≤ 6 ∧ sixB c = decide (kindN c.toNat = 2 ∨ kindN c.toNat = 3 ∨ kindN c.toNat = 5) ∧ quadB c = decide (kindN c.toNat = 2 ∨ kindN c.toNat = 6) ∧ wordB c = decide (kindN c.toNat = 2 ∨ kindN c.toNat = 3 ∨ kindN c.toNat = 4) ∧
    decide (c = 58) = decide (kindN c.toNat = 5) ∧ decide (c = 46) = decide (kindN c.toNat = 6) ∧ isDig c = decide (kindN c.toNat = 2) ∧ letB c = decide (kindN c.toNat = 3 ∨ kindN c.toNat = 4) := by
  have h : ∀ k : Fin 256, kindN k.1 ≤ 6 ∧ sixB (UInt8.ofNat k.1) = decide (kindN k.1 = 2 ∨ kindN k.1 = 3 ∨ kindN k.1 = 5) ∧ quadB (UInt8.ofNat k.1) = decide (kindN k.1 = 2 ∨ kindN k.1 = 6) ∧ wordB (UInt8.ofNat k.1) = decide (kindN k.1 = 2 ∨ kindN k.1 = 3 ∨ kindN k.1 = 4) ∧
    decide (UInt8.ofNat k.1 = 58) = decide (kindN k.1 = 5) ∧ decide (UInt8.ofNat k.1 = 46) = decide (kindN k.1 = 6) ∧ isDig (UInt8.ofNat k.1) = decide (kindN k.1 = 2) ∧ letB (UInt8.ofNat k.1) = decide (kindN k.1 = 3 ∨ kindN k.1 = 4) := by decide +kernel
  have := h ⟨c.toNat, c.toNat_lt⟩
  simpa only [UInt8.ofNat_toNat] using this

set_option maxHeartbeats 400000 in
theorem isblank_any (c : UInt8) (w : World) :
    Calls Tryz.prog 12 #[.int .u8 (c.toNat : Int)] w fun e w' => e = .returned (.bool (blankB c)) ∧ w = w' := by
  rw [← kind_blank c]
  have C := kind_any c.toNat w
  generalize kindN c.toNat = q at *
  go_enter Tryz.func12, Tryz.ntmps12
  go_wp2_with fail
  refine C.mono ?_
  rintro e w1 ⟨rfl, rfl⟩
  clear C
  go_wp2
  go_ret
  exact ⟨rfl, rfl⟩

set_option maxHeartbeats 400000 in
theorem isword_any (c : UInt8) (w : World) :
    Calls Tryz.prog 32 #[.int .u8 (c.toNat : Int)] w fun e w' => e = .returned (.bool (wordB c)) ∧ w = w' := by
  have hk := (kind_is c).1
  rw [(kind_is c).2.2.2.1]
  have C := kind_any c.toNat w
  generalize kindN c.toNat = q at *
  have hq : q = 0 ∨ q = 1 ∨ q = 2 ∨ q = 3 ∨ q = 4 ∨ q = 5 ∨ q = 6 := by omega
  clear hk
  rcases hq with rfl | rfl | rfl | rfl | rfl | rfl | rfl <;>
  · go_enter Tryz.func32, Tryz.ntmps32
    go_wp2_with fail
    refine C.mono ?_
    rintro e w1 ⟨rfl, rfl⟩
    clear C
    go_wp2
    go_ret
    exact ⟨rfl, rfl⟩

end Go.Proofs.YtbdmpjnlgdahmabGreatDoor
