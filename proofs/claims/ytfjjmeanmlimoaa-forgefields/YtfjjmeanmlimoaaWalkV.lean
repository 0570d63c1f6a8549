/-
  The landed reader's six steps, in words, and that they are the look of chapter 7.
-/
import Derived.Test.YtfjjmeanmlimoaaFrameV
namespace Go.Proofs.Ytfjjmeanmlimoaa
open Go.RowKit
set_option maxRecDepth 100000

def protoS (l : Lk) (b : List UInt8) (v : Vw) : Except Int Vw := (protoV l b v.pos).bind fun q => .ok { v with proto := q.1, pos := q.2 }
def headS (l : Lk) (b : List UInt8) (v : Vw) : Except Int Vw := if l.mp = 0 ∨ v.proto ≠ 61 then .ok v else (headV l b v.pos).bind fun h => .ok { v with multi := true, beg := h.1, fin := h.2.1, seq := h.2.2.1, pos := h.2.2.2 }
def netS (b : List UInt8) (v : Vw) : Except Int Vw := if v.proto = 33 ∨ v.proto = 87 then ipV v b else .ok v
/-- A step. -/
def stepX (l : Lk) (b : List UInt8) : Nat → Vw → Except Int Vw
  | 0, v => if 65535 < b.length then .error 71 else .ok v
  | 1, v => (plainV l b).bind fun p => .ok { v with pos := v.pos + p }
  | 2, v => protoS l b v
  | 3, v => headS l b v
  | 4, v => if v.beg = true then protoS l b v else .ok v
  | 5, v => netS b v
  | _, v => .ok v
/-- The steps from one on. -/
def chainX (l : Lk) (b : List UInt8) : Nat → Nat → Vw → Except Int Vw
  | 0, _, v => .ok v
  | n + 1, i, v => (stepX l b i v).bind (chainX l b n (i + 1))

theorem chain_err {l : Lk} {b : List UInt8} {n i : Nat} {v : Vw} {e : Int} (h : stepX l b i v = .error e) : chainX l b (n + 1) i v = .error e := by rw [chainX, h]; rfl
theorem chain_ok {l : Lk} {b : List UInt8} {n i : Nat} {v u : Vw} (h : stepX l b i v = .ok u) : chainX l b (n + 1) i v = chainX l b n (i + 1) u := by rw [chainX, h]; rfl

theorem except_cases {α : Type} (x : Except Int α) : (∃ e, x = .error e) ∨ ∃ a, x = .ok a := by
  cases x with
  | error e => exact .inl ⟨e, rfl⟩
  | ok a => exact .inr ⟨a, rfl⟩

theorem bind_err {α β : Type} {x : Except Int α} {f : α → Except Int β} {e : Int} (h : x = .error e) : x.bind f = .error e := by rw [h]; rfl

theorem chain_perr {l : Lk} {b : List UInt8} {n : Nat} {v : Vw} {e : Int} (h : protoV l b v.pos = .error e) : chainX l b (n + 1) 2 v = .error e := chain_err (show protoS l b v = _ from bind_err h)
theorem chain_pok {l : Lk} {b : List UInt8} {n : Nat} {v : Vw} {q : Nat × Nat} (h : protoV l b v.pos = .ok q) : chainX l b (n + 1) 2 v = chainX l b n 3 { v with proto := q.1, pos := q.2 } := chain_ok (show protoS l b v = _ from bind_of h)

theorem chain_h0 {l : Lk} {b : List UInt8} {n : Nat} {v : Vw} (h : l.mp = 0 ∨ v.proto ≠ 61) : chainX l b (n + 1) 3 v = chainX l b n 4 v := chain_ok (show headS l b v = _ by rw [headS, if_pos h])
theorem chain_herr {l : Lk} {b : List UInt8} {n : Nat} {v : Vw} {e : Int} (h : ¬ (l.mp = 0 ∨ v.proto ≠ 61)) (hh : headV l b v.pos = .error e) : chainX l b (n + 1) 3 v = .error e := chain_err (show headS l b v = _ by rw [headS, if_neg h]; exact bind_err hh)
theorem chain_hok {l : Lk} {b : List UInt8} {n : Nat} {v : Vw} {q : Bool × Bool × Nat × Nat} (h : ¬ (l.mp = 0 ∨ v.proto ≠ 61)) (hh : headV l b v.pos = .ok q) : chainX l b (n + 1) 3 v = chainX l b n 4 { v with multi := true, beg := q.1, fin := q.2.1, seq := q.2.2.1, pos := q.2.2.2 } := chain_ok (show headS l b v = _ by rw [headS, if_neg h]; exact bind_of hh)

theorem tail_eq (l : Lk) (b : List UInt8) (v : Vw) (hb : v.multi = false → v.beg = false) (hp : v.multi = true → v.beg = false → v.proto = 61) : chainX l b 2 4 v =
    (if v.multi = true ∧ v.beg = false then .ok v
    else (if v.multi = true then (protoV l b v.pos).bind fun q => .ok { v with proto := q.1, pos := q.2 } else .ok v).bind fun v =>
      if v.proto = 33 ∨ v.proto = 87 then ipV v b else .ok v) := by
  show (if v.beg = true then protoS l b v else .ok v).bind (fun v => (netS b v).bind fun v => .ok v) = _
  have hid : ∀ x : Except Int Vw, (x.bind fun v => .ok v) = x := fun x => by cases x <;> rfl
  have hn : (fun v => (netS b v).bind fun v => .ok v) = netS b := funext fun v => hid _
  rw [hn]
  obtain ⟨pr, mu, be, fi, sq, po, ne, nx, lo⟩ := v
  cases mu with
  | false =>
    cases be with
    | true => exact absurd (hb rfl) (by simp)
    | false => rfl
  | true =>
    cases be with
    | true => rfl
    | false =>
      show netS b _ = .ok _
      have h61 : pr = 61 := hp rfl rfl
      rw [netS, if_neg (by show ¬ (pr = 33 ∨ pr = 87); omega)]

theorem look_chain {l : Lk} (b : List UInt8) (hc : checkF l = 0) : chainX l b 6 0 Vw.zero = lookX l b := by
  have e0 : lookX l b = (pieceV l b).bind fun v => if v.multi = true ∧ v.beg = false then .ok v
    else (if v.multi = true then (protoV l b v.pos).bind fun q => .ok { v with proto := q.1, pos := q.2 } else .ok v).bind fun v =>
      if v.proto = 33 ∨ v.proto = 87 then ipV v b else .ok v := by rw [lookX, if_neg (by rw [hc]; simp)]
  rw [e0]
  by_cases hl : 65535 < b.length
  · have e1 : pieceV l b = .error 71 := by rw [pieceV, if_pos hl]
    rw [bind_err e1, chain_err (by rw [stepX, if_pos hl])]
  · have e1 : pieceV l b = (plainV l b).bind fun p => (protoV l b p).bind fun q =>
      if l.mp = 0 ∨ q.1 ≠ 61 then .ok ⟨q.1, false, false, false, 0, q.2, 0, 0, 0⟩
      else (headV l b q.2).bind fun h => .ok ⟨q.1, true, h.1, h.2.1, h.2.2.1, h.2.2.2, 0, 0, 0⟩ := by rw [pieceV, if_neg hl]
    rw [e1, chain_ok (u := Vw.zero) (by rw [stepX, if_neg hl])]
    rcases except_cases (plainV l b) with ⟨e, hp⟩ | ⟨p, hp⟩
    · rw [bind_err (bind_err hp), chain_err (i := 1) (show (plainV l b).bind _ = _ from bind_err hp)]
    · rw [bind_of hp, chain_ok (u := { Vw.zero with pos := p }) (by
        show (plainV l b).bind (fun p => Except.ok { Vw.zero with pos := Vw.zero.pos + p }) = _
        rw [bind_of hp]
        show Except.ok { Vw.zero with pos := 0 + p } = _
        rw [Nat.zero_add])]
      rcases except_cases (protoV l b p) with ⟨e, hq⟩ | ⟨q, hq⟩
      · rw [bind_err (bind_err hq), chain_perr hq]
      · rw [bind_of hq, chain_pok hq]
        by_cases hm : l.mp = 0 ∨ q.1 ≠ 61
        · rw [if_pos hm, chain_h0 hm]
          exact tail_eq l b _ (fun _ => rfl) (fun h => by cases h)
        · rw [if_neg hm]
          rcases except_cases (headV l b q.2) with ⟨e, hh⟩ | ⟨h, hh⟩
          · rw [bind_err (bind_err hh), chain_herr hm hh]
          · rw [bind_of hh, chain_hok hm hh]
            have h61 : q.1 = 61 := Classical.byContradiction fun e => hm (.inr e)
            exact tail_eq l b _ (fun h => by cases h) (fun _ _ => h61)

end Go.Proofs.Ytfjjmeanmlimoaa
