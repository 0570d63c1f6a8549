/-
  The landed reader: its six steps as a row.
-/
import Derived.Test.YtfjjmeanmlimoaaWalkE
import Derived.Shelf.Abstract
namespace Go.Proofs.Ytfjjmeanmlimoaa
open Go.RowKit
set_option maxRecDepth 100000

def stepN (i : Nat) : Nat := match i with
  | 0 => 34
  | 1 => 35
  | 2 => 36
  | 3 => 37
  | 4 => 38
  | _ => 39

theorem stepN_enters (i : Nat) : ∀ args w, (callFunc (stepN i) args).run Try.prog w = .ok (.enter (stepN i) args) w := by
  unfold stepN
  split
  · exact enters_of Try.func34 (by kernel_rfl) rfl
  · exact enters_of Try.func35 (by kernel_rfl) rfl
  · exact enters_of Try.func36 (by kernel_rfl) rfl
  · exact enters_of Try.func37 (by kernel_rfl) rfl
  · exact enters_of Try.func38 (by kernel_rfl) rfl
  · exact enters_of Try.func39 (by kernel_rfl) rfl

/-- Where a reader stands ahead of a step. -/
def InvX (b : List UInt8) (i : Nat) (v : Vw) : Prop := v.pos ≤ b.length ∧ (i ≤ 1 → v.pos = 0)

theorem protoS_pos {l : Lk} {b : List UInt8} {v u : Vw} (h : protoS l b v = .ok u) : u.pos ≤ b.length := by
  obtain ⟨q, hq, h⟩ := bind_ok h
  cases h
  exact (proto_grows (c := []) hq).2.2
theorem ip_pos {b : List UInt8} {v u : Vw} (h : ipV v b = .ok u) : u.pos = v.pos := by
  unfold ipV at h
  repeat' split at h
  all_goals cases h
  all_goals rfl

theorem step_inv {l : Lk} {b : List UInt8} {i : Nat} {v u : Vw} (hi : i < 6) (hv : InvX b i v) (h : stepX l b i v = .ok u) : InvX b (i + 1) u := by
  have hs : i = 0 ∨ i = 1 ∨ i = 2 ∨ i = 3 ∨ i = 4 ∨ i = 5 := by omega
  rcases hs with rfl | rfl | rfl | rfl | rfl | rfl
  · have h' : (if 65535 < b.length then .error 71 else .ok v : Except Int Vw) = .ok u := h
    split at h'
    · cases h'
    · cases h'
      exact ⟨hv.1, fun _ => hv.2 (by omega)⟩
  · obtain ⟨p, hp, h⟩ := bind_ok h
    cases h
    refine ⟨?_, fun e => by omega⟩
    have h0 := hv.2 (by omega)
    show v.pos + p ≤ b.length
    unfold plainV at hp
    split at hp
    · rename_i hc
      cases hp
      omega
    · split at hp
      · cases hp; omega
      · split at hp <;> cases hp
  · exact ⟨protoS_pos h, fun e => by omega⟩
  · have h' : headS l b v = .ok u := h
    unfold headS at h'
    split at h'
    · cases h'
      exact ⟨hv.1, fun e => by omega⟩
    · obtain ⟨q, hq, h'⟩ := bind_ok h'
      cases h'
      exact ⟨(head_grows (c := []) hq).2.2.1, fun e => by omega⟩
  · have h' : (if v.beg = true then protoS l b v else .ok v) = .ok u := h
    split at h'
    · exact ⟨protoS_pos h', fun e => by omega⟩
    · cases h'
      exact ⟨hv.1, fun e => by omega⟩
  · have h' : netS b v = .ok u := h
    unfold netS at h'
    split at h'
    · exact ⟨by rw [ip_pos h']; exact hv.1, fun e => by omega⟩
    · cases h'
      exact ⟨hv.1, fun e => by omega⟩

/-- A step of the row, function 39 its last. -/
theorem step_any (i g : Nat) (v : Vw) (l : Lk) (a : Option Addr) (ca : Nat) (b : List UInt8) (w : World) (hi : i < 6) (h : WAt w g v l (.slice a b.length ca)) (ha : FrA w g a b) (hn : b.length ≤ 140737488355328) (hv : InvX b i v) (hl : 0 ≤ l.mp ∧ l.mp ≤ 2) :
    Calls Try.prog (stepN i) #[.pointer (some ⟨g, 0, none⟩)] w fun e w' => StepP w g l (.slice a b.length ca) (stepX l b i v) e w' := by
  have hs : i = 0 ∨ i = 1 ∨ i = 2 ∨ i = 3 ∨ i = 4 ∨ i = 5 := by omega
  rcases hs with rfl | rfl | rfl | rfl | rfl | rfl
  · exact length_any g v l a ca b.length w h
  · exact address_any g v l a ca b w h ha hn (by have := hv.2 (by omega); omega)
  · exact protocol_any g v l a ca b w h ha hn hv.1
  · exact header_any g v l a ca b w h ha hn hv.1 hl
  · exact inner_any g v l a ca b w h ha hn hv.1
  · exact network_any g v l a ca b w h ha hn hv.1

end Go.Proofs.Ytfjjmeanmlimoaa
