/-
  What chapter 7 says of a frame: no Go text here. The document's own Check, Plain, Proto, Head.
-/
import Derived.Test.YtencoknpocipbaaGreatLotP2
import Derived.Test.YtencoknpocipbaaGreatLotP4
import Derived.Test.YtencoknpocipbaaGreatLotP3
import Derived.Handy
namespace Go.Proofs.YtencoknpocipbaaGreat
open Go.RowKit
set_option maxRecDepth 100000

structure Lk where
  acfc : Bool
  pfc : Bool
  mp : Int
structure Vw where
  proto : Nat
  multi : Bool
  beg : Bool
  fin : Bool
  seq : Nat
  pos : Nat
  net : Nat
  next : Nat
  load : Nat
def Vw.zero : Vw := ⟨0, false, false, false, 0, 0, 0, 0, 0⟩

/-- A byte of a frame. -/
def bg (b : List UInt8) (i : Nat) : Nat := (b.getD i 0).toNat
theorem bg_lt (b : List UInt8) (i : Nat) : bg b i < 256 := UInt8.toNat_lt _
theorem bg_app (b c : List UInt8) (i : Nat) (h : i < b.length) : bg (b ++ c) i = bg b i := by
  unfold bg
  rw [List.getD_eq_getElem?_getD, List.getD_eq_getElem?_getD, List.getElem?_append_left h]
theorem bg_take (b : List UInt8) (n i : Nat) (h : i < n) : bg (b.take n) i = bg b i := by
  unfold bg
  rw [List.getD_eq_getElem?_getD, List.getD_eq_getElem?_getD, List.getElem?_take_of_lt h]

def plainV (l : Lk) (b : List UInt8) : Except Int Nat :=
  if 2 ≤ b.length ∧ bg b 0 = 255 ∧ bg b 1 = 3 then .ok 2 else if l.acfc = true then .ok 0 else if b.length < 2 then .error 72 else .error 73
def protoV (l : Lk) (b : List UInt8) (p : Nat) : Except Int (Nat × Nat) :=
  if b.length ≤ p then .error 72
  else if bg b p % 2 = 1 then (if l.pfc = true then .ok (bg b p, p + 1) else .error 74)
  else if b.length ≤ p + 1 then .error 72
  else if bg b (p + 1) % 2 = 0 then .error 74 else .ok (256 * bg b p + bg b (p + 1), p + 2)
/-- A header's number, and its size. -/
def szV (l : Lk) : Nat := if l.mp = 2 then 4 else 2
def spV (l : Lk) : Nat := if l.mp = 2 then 16777216 else 4096
def tpV (l : Lk) : Nat := if l.mp = 2 then 1073741824 else 16384
def headV (l : Lk) (b : List UInt8) (p : Nat) : Except Int (Bool × Bool × Nat × Nat) :=
  if b.length < p + szV l then .error 72
  else if numAt b p (szV l) % tpV l ≠ numAt b p (szV l) % spV l then .error 75
  else .ok (decide (numAt b p (szV l) / (2 * tpV l) = 1), decide (numAt b p (szV l) / tpV l % 2 = 1), numAt b p (szV l) % spV l, p + szV l)
def pieceV (l : Lk) (b : List UInt8) : Except Int Vw :=
  if 65535 < b.length then .error 71
  else (plainV l b).bind fun p => (protoV l b p).bind fun q =>
    if l.mp = 0 ∨ q.1 ≠ 61 then .ok ⟨q.1, false, false, false, 0, q.2, 0, 0, 0⟩
    else (headV l b q.2).bind fun h => .ok ⟨q.1, true, h.1, h.2.1, h.2.2.1, h.2.2.2, 0, 0, 0⟩
def ipV (v : Vw) (b : List UInt8) : Except Int Vw :=
  if v.proto = 87 then
    (if b.length < v.pos + 40 then .error 72 else if bg b v.pos / 16 ≠ 6 then .error 76 else .ok { v with net := 6, next := bg b (v.pos + 6), load := v.pos + 40 })
  else
    (if b.length < v.pos + 20 then .error 72 else if bg b v.pos / 16 ≠ 4 then .error 76
     else if 4 * (bg b v.pos % 16) < 20 then .error 76 else if b.length < v.pos + 4 * (bg b v.pos % 16) then .error 72
     else .ok { v with net := 4, next := bg b (v.pos + 9), load := if bg b (v.pos + 6) % 32 = 0 ∧ bg b (v.pos + 7) = 0 then v.pos + 4 * (bg b v.pos % 16) else v.load })
def checkF (l : Lk) : Int := if l.mp < 0 ∨ 2 < l.mp then 70 else 0
/-- P7.2. -/
def lookX (l : Lk) (b : List UInt8) : Except Int Vw :=
  if checkF l ≠ 0 then .error (checkF l)
  else (pieceV l b).bind fun v => if v.multi = true ∧ v.beg = false then .ok v
    else (if v.multi = true then (protoV l b v.pos).bind fun q => .ok { v with proto := q.1, pos := q.2 } else .ok v).bind fun v =>
      if v.proto = 33 ∨ v.proto = 87 then ipV v b else .ok v
def lookV (l : Lk) (b : List UInt8) : Vw := match lookX l b with
  | .ok v => v
  | .error _ => Vw.zero
def lookE (l : Lk) (b : List UInt8) : Int := match lookX l b with
  | .ok _ => 0
  | .error e => e

/-! Bytes behind turn nothing. -/
theorem numAt_app (b c : List UInt8) (p k : Nat) (h : p + k ≤ b.length) : numAt (b ++ c) p k = numAt b p k := by
  induction k with
  | zero => rfl
  | succ k ih =>
    have e : ∀ xs : List UInt8, numAt xs p (k + 1) = numAt xs p k * 256 + (xs.getD (p + k) 0).toNat := fun xs => rfl
    have e2 := bg_app b c (p + k) (by omega)
    unfold bg at e2
    rw [e, e, ih (by omega), e2]

theorem proto_grows {l : Lk} {b c : List UInt8} {p : Nat} {q : Nat × Nat} (h : protoV l b p = .ok q) : protoV l (b ++ c) p = .ok q ∧ p < q.2 ∧ q.2 ≤ b.length := by
  unfold protoV at h ⊢
  have hl : (b ++ c).length = b.length + c.length := List.length_append
  split at h
  · cases h
  · rename_i h1
    rw [if_neg (by omega), bg_app b c p (by omega)]
    split at h
    · rename_i h2
      rw [if_pos h2]
      split at h
      · rename_i h3
        rw [if_pos h3]
        cases h
        exact ⟨rfl, by simp, by simp; omega⟩
      · cases h
    · rename_i h2
      rw [if_neg h2]
      split at h
      · cases h
      · rename_i h3
        rw [if_neg (by omega), bg_app b c (p + 1) (by omega)]
        split at h
        · cases h
        · rename_i h4
          rw [if_neg h4]
          cases h
          exact ⟨rfl, by simp, by simp; omega⟩

theorem head_grows {l : Lk} {b c : List UInt8} {p : Nat} {q : Bool × Bool × Nat × Nat} (h : headV l b p = .ok q) : headV l (b ++ c) p = .ok q ∧ p < q.2.2.2 ∧ q.2.2.2 ≤ b.length ∧ q.2.2.1 < spV l := by
  have hs : 2 ≤ szV l := by unfold szV; split <;> omega
  have hp : 0 < spV l := by unfold spV; split <;> omega
  unfold headV at h ⊢
  have hl : (b ++ c).length = b.length + c.length := List.length_append
  split at h
  · cases h
  · rename_i h1
    rw [if_neg (by omega), numAt_app b c p (szV l) (by omega)]
    split at h
    · cases h
    · rename_i h2
      rw [if_neg h2]
      cases h
      exact ⟨rfl, by simp; omega, by simp; omega, Nat.mod_lt _ hp⟩

theorem ip_grows {v u : Vw} {b c : List UInt8} (h : ipV v b = .ok u) : ipV v (b ++ c) = .ok u := by
  unfold ipV at h ⊢
  have hl : (b ++ c).length = b.length + c.length := List.length_append
  split at h
  · rename_i h0
    rw [if_pos h0]
    split at h
    · cases h
    · rename_i h1
      rw [if_neg (by omega), bg_app b c _ (by omega), bg_app b c _ (by omega)]
      exact h
  · rename_i h0
    rw [if_neg h0]
    split at h
    · cases h
    · rename_i h1
      rw [if_neg (by omega), bg_app b c _ (by omega), bg_app b c _ (by omega), bg_app b c _ (by omega), bg_app b c _ (by omega)]
      split at h
      · cases h
      · rename_i h2
        rw [if_neg h2]
        split at h
        · cases h
        · rename_i h3
          rw [if_neg h3]
          split at h
          · cases h
          · rename_i h4
            rw [if_neg (by omega)]
            exact h

theorem bind_ok {α β : Type} {x : Except Int α} {f : α → Except Int β} {r : β} (h : x.bind f = .ok r) : ∃ a, x = .ok a ∧ f a = .ok r := by
  cases x with
  | error e => cases h
  | ok a => exact ⟨a, rfl, h⟩

theorem bind_of {α β : Type} {x : Except Int α} {f : α → Except Int β} {a : α} (h : x = .ok a) : x.bind f = f a := by rw [h]; rfl

theorem plain_grows {l : Lk} {b : List UInt8} (c : List UInt8) (h : 2 ≤ b.length) : plainV l (b ++ c) = plainV l b := by
  have hl : (b ++ c).length = b.length + c.length := List.length_append
  unfold plainV
  rw [bg_app b c 0 (by omega), bg_app b c 1 (by omega)]
  by_cases h1 : bg b 0 = 255 ∧ bg b 1 = 3
  · have n1 : 2 ≤ (b ++ c).length ∧ bg b 0 = 255 ∧ bg b 1 = 3 := ⟨by omega, h1⟩
    have n2 : 2 ≤ b.length ∧ bg b 0 = 255 ∧ bg b 1 = 3 := ⟨h, h1⟩
    rw [if_pos n1, if_pos n2]
  · have n1 : ¬ (2 ≤ (b ++ c).length ∧ bg b 0 = 255 ∧ bg b 1 = 3) := fun e => h1 e.2
    have n2 : ¬ (2 ≤ b.length ∧ bg b 0 = 255 ∧ bg b 1 = 3) := fun e => h1 e.2
    have n3 : ¬ (b ++ c).length < 2 := by omega
    have n4 : ¬ b.length < 2 := by omega
    rw [if_neg n1, if_neg n2, if_neg n3, if_neg n4]
theorem plain_le {l : Lk} {b : List UInt8} {p : Nat} (h : plainV l b = .ok p) : p = 0 ∨ p = 2 := by
  unfold plainV at h
  split at h
  · cases h; exact .inr rfl
  · split at h
    · cases h; exact .inl rfl
    · split at h <;> cases h

/-- What a piece's look says. -/
theorem piece_ok {l : Lk} {b : List UInt8} {v : Vw} (h : pieceV l b = .ok v) : b.length ≤ 65535 ∧ v.net = 0 ∧ v.next = 0 ∧ v.load = 0 ∧ 1 ≤ v.pos ∧ v.pos ≤ b.length ∧ v.proto < 65536 ∧ v.proto % 2 = 1
    ∧ (v.multi = false → v.beg = false ∧ v.fin = false ∧ v.seq = 0) ∧ (v.multi = true → l.mp ≠ 0 ∧ v.seq < spV l) := by
  unfold pieceV at h
  split at h
  · cases h
  · rename_i hlen
    obtain ⟨p, hp, h⟩ := bind_ok h
    obtain ⟨q, hq, h⟩ := bind_ok h
    obtain ⟨-, q1, q2⟩ := proto_grows (c := []) hq
    have hpr : q.1 < 65536 ∧ q.1 % 2 = 1 := by
      unfold protoV at hq
      have b1 := bg_lt b p
      have b2 := bg_lt b (p + 1)
      split at hq
      · cases hq
      · split at hq
        · split at hq
          · cases hq; exact ⟨by simp; omega, by simpa⟩
          · cases hq
        · split at hq
          · cases hq
          · split at hq
            · cases hq
            · cases hq; exact ⟨by simp; omega, by simp; omega⟩
    split at h
    · cases h
      exact ⟨by omega, rfl, rfl, rfl, by simp; omega, q2, hpr.1, hpr.2, fun _ => ⟨rfl, rfl, rfl⟩, fun e => (by cases e)⟩
    · rename_i hm
      obtain ⟨w, hw, h⟩ := bind_ok h
      obtain ⟨-, w1, w2, w3⟩ := head_grows (c := []) hw
      cases h
      exact ⟨by omega, rfl, rfl, rfl, by simp; omega, w2, hpr.1, hpr.2, fun e => (by cases e), fun _ => ⟨fun e => hm (.inl e), w3⟩⟩

theorem piece_grows {l : Lk} {b c : List UInt8} {v : Vw} (h : pieceV l b = .ok v) (h2 : 2 ≤ b.length) (hc : (b ++ c).length ≤ 65535) : pieceV l (b ++ c) = .ok v := by
  unfold pieceV at h ⊢
  split at h
  · cases h
  · obtain ⟨p, hp, h⟩ := bind_ok h
    obtain ⟨q, hq, h⟩ := bind_ok h
    rw [if_neg (by omega), plain_grows c h2, bind_of hp, bind_of (proto_grows hq).1]
    split at h
    · rename_i hm
      rw [if_pos hm]; exact h
    · rename_i hm
      rw [if_neg hm]
      obtain ⟨w, hw, h⟩ := bind_ok h
      rw [bind_of (head_grows hw).1]
      exact h

theorem look_grows {l : Lk} {b c : List UInt8} {v : Vw} (h : lookX l b = .ok v) (h2 : 2 ≤ b.length) (hc : (b ++ c).length ≤ 65535) : lookX l (b ++ c) = .ok v := by
  unfold lookX at h ⊢
  split at h
  · cases h
  · rename_i h0
    rw [if_neg h0]
    obtain ⟨u, hu, h⟩ := bind_ok h
    rw [bind_of (piece_grows hu h2 hc)]
    split at h
    · rename_i hm
      rw [if_pos hm]; exact h
    · rename_i hm
      rw [if_neg hm]
      obtain ⟨u2, hu2, h⟩ := bind_ok h
      have e : (if u.multi = true then (protoV l (b ++ c) u.pos).bind fun q => .ok { u with proto := q.1, pos := q.2 } else .ok u) = .ok u2 := by
        split at hu2
        · rename_i hmm
          rw [if_pos hmm]
          obtain ⟨q, hq, hu2⟩ := bind_ok hu2
          rw [bind_of (proto_grows hq).1]
          exact hu2
        · rename_i hmm
          rw [if_neg hmm]; exact hu2
      rw [bind_of e]
      split at h
      · rename_i hi
        rw [if_pos hi]
        exact ip_grows h
      · rename_i hi
        rw [if_neg hi]; exact h

/-- What a frame that is well formed says. -/
structure LookOk (l : Lk) (b : List UInt8) (v : Vw) : Prop where
  len : b.length ≤ 65535
  pos1 : 1 ≤ v.pos
  pos2 : v.pos ≤ b.length
  load : v.load ≤ b.length
  far : v.load ≠ 0 → v.pos + 20 ≤ v.load
  pr : v.proto < 65536 ∧ v.proto % 2 = 1
  net : v.net = if (v.proto = 33 ∧ (v.multi = false ∨ v.beg = true)) then 4 else if (v.proto = 87 ∧ (v.multi = false ∨ v.beg = true)) then 6 else 0
  none : v.net = 0 → v.next = 0 ∧ v.load = 0
  next : v.next ≤ 255
  one : v.multi = false → v.beg = false ∧ v.fin = false ∧ v.seq = 0
  two : v.multi = true → l.mp ≠ 0 ∧ v.seq < spV l
  mp : 0 ≤ l.mp ∧ l.mp ≤ 2

theorem proto_odd {l : Lk} {b : List UInt8} {p : Nat} {q : Nat × Nat} (hq : protoV l b p = .ok q) : q.1 < 65536 ∧ q.1 % 2 = 1 := by
  unfold protoV at hq
  have b1 := bg_lt b p
  have b2 := bg_lt b (p + 1)
  split at hq
  · cases hq
  · split at hq
    · split at hq
      · cases hq; exact ⟨by simp; omega, by simpa⟩
      · cases hq
    · split at hq
      · cases hq
      · split at hq
        · cases hq
        · cases hq; exact ⟨by simp; omega, by simp; omega⟩

theorem look_ok {l : Lk} {b : List UInt8} {v : Vw} (h : lookX l b = .ok v) : LookOk l b v := by
  unfold lookX at h
  split at h
  · cases h
  · rename_i h0
    have hmp : 0 ≤ l.mp ∧ l.mp ≤ 2 := by
      unfold checkF at h0
      split at h0
      · exact absurd (by simp) h0
      · omega
    obtain ⟨u, hu, h⟩ := bind_ok h
    obtain ⟨p1, p2, p3, p4, p5, p6, p7, p8, p9, p10⟩ := piece_ok hu
    split at h
    · rename_i hm
      cases h
      refine ⟨p1, p5, p6, by omega, fun e => absurd p4 e, ⟨p7, p8⟩, ?_, fun _ => ⟨p3, p4⟩, by omega, p9, p10, hmp⟩
      rw [p2, if_neg (by rw [hm.1, hm.2]; simp), if_neg (by rw [hm.1, hm.2]; simp)]
    · rename_i hm
      obtain ⟨u2, hu2, h⟩ := bind_ok h
      have key : u2.net = 0 ∧ u2.next = 0 ∧ u2.load = 0 ∧ 1 ≤ u2.pos ∧ u2.pos ≤ b.length ∧ u2.proto < 65536 ∧ u2.proto % 2 = 1 ∧ u2.multi = u.multi ∧ u2.beg = u.beg ∧ u2.fin = u.fin ∧ u2.seq = u.seq := by
        split at hu2
        · obtain ⟨q, hq, hu2⟩ := bind_ok hu2
          obtain ⟨-, q1, q2⟩ := proto_grows (c := []) hq
          have hpr := proto_odd hq
          cases hu2
          exact ⟨p2, p3, p4, by simp; omega, q2, hpr.1, hpr.2, rfl, rfl, rfl, rfl⟩
        · cases hu2
          exact ⟨p2, p3, p4, p5, p6, p7, p8, rfl, rfl, rfl, rfl⟩
      obtain ⟨k1, k2, k3, k4, k5, k6, k7, k8, k9, k10, k11⟩ := key
      have hmb : u2.multi = false ∨ u2.beg = true := by
        rw [k8, k9]
        cases hmm : u.multi with
        | false => exact .inl rfl
        | true =>
          cases hbb : u.beg with
          | true => exact .inr rfl
          | false => exact absurd ⟨hmm, hbb⟩ hm
      have o1 : u2.multi = false → u2.beg = false ∧ u2.fin = false ∧ u2.seq = 0 := by rw [k8, k9, k10, k11]; exact p9
      have o2 : u2.multi = true → l.mp ≠ 0 ∧ u2.seq < spV l := by rw [k8, k11]; exact p10
      split at h
      · rename_i hi
        unfold ipV at h
        split at h
        · rename_i h87
          split at h
          · cases h
          · rename_i h40
            split at h
            · cases h
            · cases h
              refine ⟨p1, k4, k5, (by show u2.pos + 40 ≤ b.length; omega), fun _ => (by show u2.pos + 20 ≤ u2.pos + 40; omega), ⟨k6, k7⟩, ?_, fun e => (by cases e), ?_, o1, o2, hmp⟩
              · show 6 = if (u2.proto = 33 ∧ (u2.multi = false ∨ u2.beg = true)) then 4 else if (u2.proto = 87 ∧ (u2.multi = false ∨ u2.beg = true)) then 6 else 0
                rw [if_neg (fun e => by omega), if_pos ⟨h87, hmb⟩]
              · have := bg_lt b (u2.pos + 6)
                show bg b (u2.pos + 6) ≤ 255
                omega
        · rename_i h87
          have h33 : u2.proto = 33 := by omega
          split at h
          · cases h
          · rename_i h20
            split at h
            · cases h
            · split at h
              · cases h
              · rename_i hsz
                split at h
                · cases h
                · rename_i hln
                  cases h
                  have hnx := bg_lt b (u2.pos + 9)
                  refine ⟨p1, k4, k5, ?_, ?_, ⟨k6, k7⟩, ?_, fun e => (by cases e), ?_, o1, o2, hmp⟩
                  · show (if bg b (u2.pos + 6) % 32 = 0 ∧ bg b (u2.pos + 7) = 0 then u2.pos + 4 * (bg b u2.pos % 16) else u2.load) ≤ b.length
                    split <;> omega
                  · show (if bg b (u2.pos + 6) % 32 = 0 ∧ bg b (u2.pos + 7) = 0 then u2.pos + 4 * (bg b u2.pos % 16) else u2.load) ≠ 0 → u2.pos + 20 ≤ (if bg b (u2.pos + 6) % 32 = 0 ∧ bg b (u2.pos + 7) = 0 then u2.pos + 4 * (bg b u2.pos % 16) else u2.load)
                    split
                    · intro _; omega
                    · intro e; exact absurd k3 e
                  · show 4 = if (u2.proto = 33 ∧ (u2.multi = false ∨ u2.beg = true)) then 4 else if (u2.proto = 87 ∧ (u2.multi = false ∨ u2.beg = true)) then 6 else 0
                    rw [if_pos ⟨h33, hmb⟩]
                  · show bg b (u2.pos + 9) ≤ 255
                    omega
      · rename_i hi
        cases h
        refine ⟨p1, k4, k5, by omega, fun e => absurd k3 e, ⟨k6, k7⟩, ?_, fun _ => ⟨k2, k3⟩, by omega, o1, o2, hmp⟩
        rw [k1, if_neg (fun e => hi (.inl e.1)), if_neg (fun e => hi (.inr e.1))]

/-- What is well formed on the plain link is so on every one. -/
theorem look_plain {b : List UInt8} {v : Vw} (h : lookX ⟨false, false, 0⟩ b = .ok v) (hm : v.proto ≠ 61) (l : Lk) (hl : 0 ≤ l.mp ∧ l.mp ≤ 2) : lookX l b = .ok v := by
  have hc : ∀ l : Lk, 0 ≤ l.mp ∧ l.mp ≤ 2 → ¬ checkF l ≠ 0 := fun l hl => by
    unfold checkF
    rw [if_neg (by omega)]
    simp
  unfold lookX at h ⊢
  rw [if_neg (hc _ ⟨by simp, by simp⟩)] at h
  rw [if_neg (hc l hl)]
  obtain ⟨u, hu, h⟩ := bind_ok h
  have key : u.multi = false ∧ (u.proto ≠ 61 → pieceV l b = .ok u) := by
    unfold pieceV at hu ⊢
    split at hu
    · cases hu
    · rename_i hlen
      rw [if_neg hlen]
      obtain ⟨p, hp, hu⟩ := bind_ok hu
      obtain ⟨q, hq, hu⟩ := bind_ok hu
      rw [if_pos (.inl rfl)] at hu
      cases hu
      refine ⟨rfl, fun hn => ?_⟩
      have hp2 : plainV l b = .ok p := by
        unfold plainV at hp ⊢
        split at hp
        · rename_i h1
          rw [if_pos h1]; exact hp
        · simp only [Bool.false_eq_true, if_false] at hp
          split at hp <;> cases hp
      have hq2 : protoV l b p = .ok q := by
        unfold protoV at hq ⊢
        split at hq
        · cases hq
        · rename_i h1
          rw [if_neg h1]
          split at hq
          · simp only [Bool.false_eq_true, if_false] at hq
            cases hq
          · rename_i h2
            rw [if_neg h2]; exact hq
      rw [bind_of hp2, bind_of hq2, if_pos (.inr hn)]
  have hmu : ¬ (u.multi = true ∧ u.beg = false) := fun e => by rw [key.1] at e; cases e.1
  have hmu2 : ¬ u.multi = true := fun e => by rw [key.1] at e; cases e
  rw [if_neg hmu] at h
  simp only [key.1, Bool.false_eq_true, if_false] at h
  have hbu : (Except.ok u : Except Int Vw).bind (fun v => if v.proto = 33 ∨ v.proto = 87 then ipV v b else .ok v) = .ok v := h
  have hpr : u.proto ≠ 61 := by
    intro e
    have h' : (if u.proto = 33 ∨ u.proto = 87 then ipV u b else .ok u) = .ok v := hbu
    rw [if_neg (by omega)] at h'
    cases h'
    exact hm e
  rw [bind_of (key.2 hpr), if_neg hmu, if_neg hmu2]
  exact hbu

theorem proto_nil (l : Lk) (p : Nat) : protoV l [] p = .error 72 := by
  unfold protoV
  rw [if_pos (by simp)]

/-- Of a frame that is well formed each beginning that lacks a byte ahead of its load is refused. -/
theorem look_short {l : Lk} {b : List UInt8} {v u : Vw} {n : Nat} (h : lookX l b = .ok v) (hn : n < if v.load ≠ 0 then v.load else v.pos) (hu : lookX l (b.take n) = .ok u) : n = 1 ∧ bg b 0 = 255 := by
  have ok := look_ok h
  have hnb : n < b.length := by
    have := ok.pos2
    have := ok.load
    split at hn <;> omega
  by_cases h2 : 2 ≤ n
  · exfalso
    have hl : (b.take n).length = n := by rw [List.length_take]; omega
    have g := look_grows (c := b.drop n) hu (by omega) (by rw [List.take_append_drop]; exact ok.len)
    rw [List.take_append_drop, h] at g
    cases g
    have ok2 := look_ok hu
    have := ok2.pos2
    have := ok2.load
    split at hn <;> omega
  · have ok2 := look_ok hu
    have hl : (b.take n).length = n := by rw [List.length_take]; omega
    have hn1 : n = 1 := by
      have := ok2.pos1
      have := ok2.pos2
      omega
    refine ⟨hn1, ?_⟩
    subst hn1
    apply Classical.byContradiction
    intro h255
    have e0 := bg_take b 1 0 (by omega)
    unfold lookX at hu h
    split at hu
    · cases hu
    · rename_i hck
      rw [if_neg hck] at h
      obtain ⟨x, hx, hu⟩ := bind_ok hu
      obtain ⟨y, hy, h⟩ := bind_ok h
      have key : x = y ∧ x.pos = 1 ∧ x.load = 0 ∧ x.multi = false := by
        unfold pieceV at hx hy
        rw [if_neg (by rw [hl]; decide)] at hx
        split at hy
        · cases hy
        · obtain ⟨p, hp, hx⟩ := bind_ok hx
          obtain ⟨q, hq, hx⟩ := bind_ok hx
          obtain ⟨p', hp', hy⟩ := bind_ok hy
          obtain ⟨q', hq', hy⟩ := bind_ok hy
          have hac : l.acfc = true ∧ p = 0 := by
            unfold plainV at hp
            rw [if_neg (by rw [hl]; omega)] at hp
            split at hp
            · rename_i ha
              cases hp
              exact ⟨ha, rfl⟩
            · split at hp <;> cases hp
          obtain ⟨ha, rfl⟩ := hac
          have hp0 : p' = 0 := by
            unfold plainV at hp'
            rw [if_neg (fun e => h255 e.2.1), if_pos ha] at hp'
            cases hp'
            rfl
          subst hp0
          have hqq : q = (bg b 0, 1) ∧ q' = (bg b 0, 1) := by
            unfold protoV at hq hq'
            rw [if_neg (by omega)] at hq
            rw [if_neg (by omega)] at hq'
            rw [e0] at hq
            split at hq
            · rename_i hod
              rw [if_pos hod] at hq'
              split at hq
              · rename_i hpf
                rw [if_pos hpf] at hq'
                cases hq
                cases hq'
                exact ⟨rfl, rfl⟩
              · cases hq
            · rw [if_pos (by omega)] at hq
              cases hq
          obtain ⟨rfl, rfl⟩ := hqq
          split at hx
          · rename_i hm
            rw [if_pos hm] at hy
            cases hx
            cases hy
            exact ⟨rfl, rfl, rfl, rfl⟩
          · obtain ⟨z, hz, hx⟩ := bind_ok hx
            unfold headV at hz
            have hs : 2 ≤ szV l := by unfold szV; split <;> omega
            rw [if_pos (by rw [hl]; simp only; omega)] at hz
            cases hz
      obtain ⟨rfl, k1, k2, k3⟩ := key
      have hmu : ¬ (x.multi = true ∧ x.beg = false) := fun e => by rw [k3] at e; cases e.1
      rw [if_neg hmu] at hu h
      simp only [k3, Bool.false_eq_true, if_false] at hu h
      have hu' : (if x.proto = 33 ∨ x.proto = 87 then ipV x (b.take 1) else .ok x) = .ok u := hu
      have h' : (if x.proto = 33 ∨ x.proto = 87 then ipV x b else .ok x) = .ok v := h
      split at hu'
      · unfold ipV at hu'
        split at hu'
        · rw [if_pos (by rw [hl]; omega)] at hu'; cases hu'
        · rw [if_pos (by rw [hl]; omega)] at hu'; cases hu'
      · rename_i hni
        rw [if_neg hni] at h'
        cases h'
        rw [k2, k1] at hn
        simp at hn

end Go.Proofs.YtencoknpocipbaaGreat

namespace Go.Proofs.YtencoknpocipbaaGreat
open Go.RowKit
set_option maxRecDepth 100000

def lkA (l : Lk) : Array Value := #[.bool l.acfc, .bool l.pfc, .int .i64 l.mp]
def exV {α : Type} (d : α) : Except Int α → α
  | .ok a => a
  | .error _ => d
def exE {α : Type} : Except Int α → Int
  | .ok _ => 0
  | .error e => e

theorem Cells.bgc {w : World} {ao : Option Addr} {b : List UInt8} (h : Cells w ao b) {k : Nat} (hk : k < b.length) : ∃ bb off, ao = some ⟨bb, off, none⟩ ∧ ∀ i, i < b.length → w.cell? ⟨bb, off + i, none⟩ = some (.int .u8 (bg b i : Int)) := by
  obtain ⟨bb, off, hao, hc⟩ := h.addr hk
  refine ⟨bb, off, hao, fun i hi => ?_⟩
  rw [hc i hi, bg, List.getD_eq_getElem?_getD, List.getElem?_eq_getElem hi]
  rfl

theorem beq_nat {x k : Nat} (h : x = k) : ((x : Int) == (k : Int)) = true := by rw [h]; simp
theorem beq_nat_no {x k : Nat} (h : x ≠ k) : ((x : Int) == (k : Int)) = false := by rw [beq_eq_false_iff_ne]; omega

/-- The bits of a header. -/
theorem mod_and (h k : Nat) (hh : h < 4294967296) (hk : k ≤ 32) : bits .and .u32 (h : Int) ((2 ^ k - 1 : Nat) : Int) = ((h % 2 ^ k : Nat) : Int) := by
  have hlt : 2 ^ k ≤ 2 ^ 32 := Nat.pow_le_pow_right (by decide) hk
  have := u32_and_nat h (2 ^ k - 1) hh (by omega)
  rw [this, Nat.and_two_pow_sub_one_eq_mod]
theorem clear_top (h k : Nat) (hk : k < 32) (hh : h < 2 ^ (k + 1)) : h &&& (4294967295 - 2 ^ k) = h % 2 ^ k := by
  have hp : 2 ^ k < 2 ^ 32 := Nat.pow_lt_pow_right (by decide) hk
  apply Nat.eq_of_testBit_eq
  intro i
  rw [Nat.testBit_and, show 4294967295 - 2 ^ k = 2 ^ 32 - (2 ^ k + 1) by omega, Nat.testBit_two_pow_sub_succ hp, Nat.testBit_mod_two_pow, Nat.testBit_two_pow]
  by_cases hi : k + 1 ≤ i
  · have : h.testBit i = false := Nat.testBit_lt_two_pow (Nat.lt_of_lt_of_le hh (Nat.pow_le_pow_right (by decide) hi))
    rw [this]; simp
  · by_cases e : i = k
    · subst e; simp
    · have h1 : i < k := by omega
      have h2 : i < 32 := by omega
      have h3 : ¬ k = i := fun e' => e e'.symm
      simp [h1, h2, h3]
theorem notop (h k : Nat) (hk : k < 32) (hh : h < 2 ^ (k + 1)) (h32 : h < 4294967296) : bits .andNot .u32 (h : Int) ((2 ^ k : Nat) : Int) = ((h % 2 ^ k : Nat) : Int) := by
  have hp : 2 ^ k < 2 ^ 32 := Nat.pow_lt_pow_right (by decide) hk
  rw [u32_andNot_nat h (2 ^ k) h32 (by omega), clear_top h k hk hh]
theorem and_two (h k : Nat) : h &&& 2 ^ k = if h.testBit k = true then 2 ^ k else 0 := by
  apply Nat.eq_of_testBit_eq
  intro i
  rw [Nat.testBit_and, Nat.testBit_two_pow]
  by_cases e : k = i
  · subst e
    cases hb : h.testBit k <;> simp
  · cases hb : h.testBit k <;> simp [e]
theorem bit_of (h k : Nat) (hk : k < 32) (h32 : h < 4294967296) : (bits .and .u32 (h : Int) ((2 ^ k : Nat) : Int) != 0) = decide (h / 2 ^ k % 2 = 1) := by
  have hp : 2 ^ k < 2 ^ 32 := Nat.pow_lt_pow_right (by decide) hk
  have hpos : 0 < 2 ^ k := Nat.pos_of_ne_zero (by simp)
  rw [u32_and_nat h (2 ^ k) h32 (by omega), and_two, ← Nat.testBit_eq_decide_div_mod_eq]
  cases h.testBit k with
  | false => rfl
  | true =>
    rw [if_pos rfl, bne_iff_ne]
    omega

/-- Five results. -/
theorem results_tmp5 {fn : Func} {t u v x y : Tmp} (h : fn.results = #[.tmp t, .tmp u, .tmp v, .tmp x, .tmp y]) (tmps : Array Value) (P : Program) (w : World) :
    (results fn tmps).run P w = .ok (.tuple #[tmps.getD t undef, tmps.getD u undef, tmps.getD v undef, tmps.getD x undef, tmps.getD y undef]) w := by
  simp [results, h]

end Go.Proofs.YtencoknpocipbaaGreat
