import Derived.Test.YtcodofamdhcfiaaGreatLotP9
import Derived.BigQuiet
import Derived.Deep.QuietTactic
namespace Go.Proofs.YtcodofamdhcfiaaGreat
open Go.RowKit
set_option maxRecDepth 100000
def viewC (s : Sg) (a : Option Addr) (ca : Nat) : Array Value := #[.int .u32 (s.v.proto : Int), .bool s.v.multi, .bool s.v.beg, .bool s.v.fin, .int .u32 (s.v.seq : Int), .int .i64 (s.v.pos : Int), .int .i64 (s.v.net : Int), .int .i64 (s.v.next : Int), .int .i64 (s.v.load : Int), .int .i64 s.way, .slice a s.b.length ca]
theorem box_view (s : Sg) (a : Option Addr) (ca : Nat) (W : World) : (Instr.box 71 (.agg (viewC s a ca))).run Tryz.prog W = .ok (.pointer (some ⟨W.heap.size, 0, none⟩)) (W.alloc (.cells (viewC s a ca) 71)) := by kernel_rfl
theorem view_size (s : Sg) (a : Option Addr) (ca : Nat) : (Tryz.prog.info? 71).map (·.size) = some (viewC s a ca).size := by kernel_rfl
def VB (w : World) (B : Nat) (s : Sg) (a : Option Addr) (ca : Nat) : Prop := VAt w B 71 (viewC s a ca)
section
variable {w w' : World} {B : Nat} {s : Sg} {a : Option Addr} {ca : Nat}
theorem VB.vat (h : VB w B s a ca) : VAt w B 71 (viewC s a ca) := h
theorem VB.kept (h : VB w B s a ca) (K : w.grownBy w' none) : VB w' B s a ca := VAt.kept h K
theorem VB.proto (h : VB w B s a ca) : w.cell? ⟨B, 0, none⟩ = some (.int .u32 (s.v.proto : Int)) := VAt.cell h 0
theorem VB.multi (h : VB w B s a ca) : w.cell? ⟨B, 1, none⟩ = some (.bool s.v.multi) := VAt.cell h 1
theorem VB.pos (h : VB w B s a ca) : w.cell? ⟨B, 5, none⟩ = some (.int .i64 (s.v.pos : Int)) := VAt.cell h 5
theorem VB.net (h : VB w B s a ca) : w.cell? ⟨B, 6, none⟩ = some (.int .i64 (s.v.net : Int)) := VAt.cell h 6
theorem VB.next (h : VB w B s a ca) : w.cell? ⟨B, 7, none⟩ = some (.int .i64 (s.v.next : Int)) := VAt.cell h 7
theorem VB.load (h : VB w B s a ca) : w.cell? ⟨B, 8, none⟩ = some (.int .i64 (s.v.load : Int)) := VAt.cell h 8
theorem VB.way (h : VB w B s a ca) : w.cell? ⟨B, 9, none⟩ = some (.int .i64 s.way) := VAt.cell h 9
theorem VB.frame (h : VB w B s a ca) : w.cell? ⟨B, 10, none⟩ = some (.slice a s.b.length ca) := VAt.cell h 10
theorem VB.alloc (w : World) (s : Sg) (a : Option Addr) (ca : Nat) : VB (w.alloc (.cells (viewC s a ca) 71)) w.heap.size s a ca := VAt.alloc _ _ _
end
set_option maxHeartbeats 400000 in
theorem vlength_any (s : Sg) (a : Option Addr) (ca : Nat) (w : World) (hb : s.b.length ≤ 65535) : Calls Tryz.prog 186 #[.agg (viewC s a ca)] w fun e w' => e = .returned (.int .u32 (s.b.length : Int)) ∧ w.grownBy w' none := by
 have hq : (s.b.length : Int) % 4294967296 = (s.b.length : Int) := by omega
 have HBX := box_view s a ca
 have h1 := VB.alloc w s a ca
 have h3 := World.grownBy_alloc w (.cells (viewC s a ca) 71) none
 have c := h1.frame
 obtain ⟨X, hX⟩ : ∃ X, viewC s a ca = X := ⟨_, rfl⟩
 rw [hX] at HBX ⊢
 go_enter Tryz.func186, Tryz.ntmps186
 go_upto_region 1 with fail
 rw [← hX] at *
 generalize w.alloc (.cells (viewC s a ca) 71) = w1 at *
 generalize w.heap.size = B at *
 clear HBX hX X
 clear h1
 go_wp2
 go_ret
 exact ⟨ret_int (by omega), h3⟩
set_option maxHeartbeats 400000 in
theorem vgoes_any (s : Sg) (a : Option Addr) (ca : Nat) (k : Int) (w : World) : Calls Tryz.prog 184 #[.agg (viewC s a ca), .int .i64 k] w fun e w' => e = .returned (.bool (decide (s.way = k))) ∧ w.grownBy w' none := by
 have HBX := box_view s a ca
 have h1 := VB.alloc w s a ca
 have h3 := World.grownBy_alloc w (.cells (viewC s a ca) 71) none
 have c := h1.way
 obtain ⟨X, hX⟩ : ∃ X, viewC s a ca = X := ⟨_, rfl⟩
 rw [hX] at HBX ⊢
 go_enter Tryz.func184, Tryz.ntmps184
 go_upto_region 1 with fail
 rw [← hX] at *
 generalize w.alloc (.cells (viewC s a ca) 71) = w1 at *
 generalize w.heap.size = B at *
 clear HBX hX X
 clear h1
 go_wp2
 go_ret
 exact ⟨ret_bool (by rw [Bool.eq_iff_iff]; simp), h3⟩
set_option maxHeartbeats 400000 in
theorem vspeaks_any (s : Sg) (a : Option Addr) (ca : Nat) (k : Nat) (w : World) : Calls Tryz.prog 188 #[.agg (viewC s a ca), .int .u32 (k : Int)] w fun e w' => e = .returned (.bool (decide (s.v.proto = k))) ∧ w.grownBy w' none := by
 have HBX := box_view s a ca
 have h1 := VB.alloc w s a ca
 have h3 := World.grownBy_alloc w (.cells (viewC s a ca) 71) none
 have c := h1.proto
 obtain ⟨X, hX⟩ : ∃ X, viewC s a ca = X := ⟨_, rfl⟩
 rw [hX] at HBX ⊢
 go_enter Tryz.func188, Tryz.ntmps188
 go_upto_region 1 with fail
 rw [← hX] at *
 generalize w.alloc (.cells (viewC s a ca) 71) = w1 at *
 generalize w.heap.size = B at *
 clear HBX hX X
 clear h1
 go_wp2
 go_ret
 exact ⟨ret_bool (by first | rfl | (rw [Bool.eq_iff_iff]; simp; try omega)), h3⟩
def wrdM (net next proto : Nat) (multi : Bool) (k : Int) : Bool := wordM ⟨proto, multi, false, false, 0, 0, net, next, 0⟩ k
theorem wrd_eq (v : Vw) (k : Int) : wordM v k = wrdM v.net v.next v.proto v.multi k := rfl
set_option maxHeartbeats 4000000 in
theorem vis_any (s : Sg) (a : Option Addr) (ca : Nat) (k : Int) (w : World) : Calls Tryz.prog 185 #[.agg (viewC s a ca), .int .i64 k] w fun e w' => e = .returned (.bool (wordM s.v k)) ∧ w.grownBy w' none := by
 have HBX := box_view s a ca
 have h1 := VB.alloc w s a ca
 have h3 := World.grownBy_alloc w (.cells (viewC s a ca) 71) none
 have c0 := h1.proto
 have c1 := h1.multi
 have c6 := h1.net
 have c7 := h1.next
 rw [wrd_eq]
 obtain ⟨X, hX⟩ : ∃ X, viewC s a ca = X := ⟨_, rfl⟩
 rw [hX] at HBX h3 c0 c1 c6 c7 ⊢
 clear hX h1
 generalize s.v.net = net at *
 generalize s.v.next = next at *
 generalize s.v.proto = proto at *
 generalize s.v.multi = multi at *
 have : k = 2 ∨ k = 3 ∨ k = 4 ∨ k = 5 ∨ k = 6 ∨ k = 7 ∨ k = 8 ∨ k = 9 ∨ k = 10 ∨ k = 11 ∨ k = 12 ∨ k = 13 ∨ (k ≠ 2 ∧ k ≠ 3 ∧ k ≠ 4 ∧ k ≠ 5 ∧ k ≠ 6 ∧ k ≠ 7 ∧ k ≠ 8 ∧ k ≠ 9 ∧ k ≠ 10 ∧ k ≠ 11 ∧ k ≠ 12 ∧ k ≠ 13) := by omega
 rcases this with rfl | rfl | rfl | rfl | rfl | rfl | rfl | rfl | rfl | rfl | rfl | rfl | ⟨n2, n3, n4, n5, n6, n7, n8, n9, n10, n11, n12, n13⟩
 ·skip
  ·skip
   go_enter Tryz.func185, Tryz.ntmps185
   go_upto_region 1 with fail
   generalize w.alloc (.cells X 71) = w1 at *
   generalize w.heap.size = B at *
   clear HBX
   go_wp2
   go_ret
   exact ⟨ret_bool (by rw [Bool.eq_iff_iff]; simp [wrdM, wordM] <;> try omega), h3⟩
 ·skip
  ·skip
   go_enter Tryz.func185, Tryz.ntmps185
   go_upto_region 1 with fail
   generalize w.alloc (.cells X 71) = w1 at *
   generalize w.heap.size = B at *
   clear HBX
   go_wp2
   go_ret
   exact ⟨ret_bool (by rw [Bool.eq_iff_iff]; simp [wrdM, wordM] <;> try omega), h3⟩
 ·by_cases hz : net = 0
  ·subst hz
   go_enter Tryz.func185, Tryz.ntmps185
   go_upto_region 1 with fail
   generalize w.alloc (.cells X 71) = w1 at *
   generalize w.heap.size = B at *
   clear HBX
   go_wp2
   go_ret
   exact ⟨ret_bool (by rw [Bool.eq_iff_iff]; simp [wrdM, wordM] <;> try omega), h3⟩
  ·have hz1 : ((net : Int) != 0) = true := by simp; omega
   have HZ : Hid (¬ net = 0) := hz
   clear hz
   go_enter Tryz.func185, Tryz.ntmps185
   go_upto_region 1 with fail
   generalize w.alloc (.cells X 71) = w1 at *
   generalize w.heap.size = B at *
   clear HBX
   go_wp2
   go_ret
   exact ⟨ret_bool (by have := HZ.out; rw [Bool.eq_iff_iff]; simp [wrdM, wordM] <;> try omega), h3⟩
 ·by_cases hz : net = 0
  ·subst hz
   go_enter Tryz.func185, Tryz.ntmps185
   go_upto_region 1 with fail
   generalize w.alloc (.cells X 71) = w1 at *
   generalize w.heap.size = B at *
   clear HBX
   go_wp2
   go_ret
   exact ⟨ret_bool (by rw [Bool.eq_iff_iff]; simp [wrdM, wordM] <;> try omega), h3⟩
  ·have hz1 : ((net : Int) != 0) = true := by simp; omega
   have HZ : Hid (¬ net = 0) := hz
   clear hz
   go_enter Tryz.func185, Tryz.ntmps185
   go_upto_region 1 with fail
   generalize w.alloc (.cells X 71) = w1 at *
   generalize w.heap.size = B at *
   clear HBX
   go_wp2
   go_ret
   exact ⟨ret_bool (by have := HZ.out; rw [Bool.eq_iff_iff]; simp [wrdM, wordM] <;> try omega), h3⟩
 ·by_cases hz : net = 4
  ·subst hz
   go_enter Tryz.func185, Tryz.ntmps185
   go_upto_region 1 with fail
   generalize w.alloc (.cells X 71) = w1 at *
   generalize w.heap.size = B at *
   clear HBX
   go_wp2
   go_ret
   exact ⟨ret_bool (by rw [Bool.eq_iff_iff]; simp [wrdM, wordM] <;> try omega), h3⟩
  ·have hz1 : ((net : Int) == 4) = false := by simp; omega
   have HZ : Hid (¬ net = 4) := hz
   clear hz
   go_enter Tryz.func185, Tryz.ntmps185
   go_upto_region 1 with fail
   generalize w.alloc (.cells X 71) = w1 at *
   generalize w.heap.size = B at *
   clear HBX
   go_wp2
   go_ret
   exact ⟨ret_bool (by have := HZ.out; rw [Bool.eq_iff_iff]; simp [wrdM, wordM] <;> try omega), h3⟩
 ·by_cases hz : net = 6
  ·subst hz
   go_enter Tryz.func185, Tryz.ntmps185
   go_upto_region 1 with fail
   generalize w.alloc (.cells X 71) = w1 at *
   generalize w.heap.size = B at *
   clear HBX
   go_wp2
   go_ret
   exact ⟨ret_bool (by rw [Bool.eq_iff_iff]; simp [wrdM, wordM] <;> try omega), h3⟩
  ·have hz1 : ((net : Int) == 6) = false := by simp; omega
   have HZ : Hid (¬ net = 6) := hz
   clear hz
   go_enter Tryz.func185, Tryz.ntmps185
   go_upto_region 1 with fail
   generalize w.alloc (.cells X 71) = w1 at *
   generalize w.heap.size = B at *
   clear HBX
   go_wp2
   go_ret
   exact ⟨ret_bool (by have := HZ.out; rw [Bool.eq_iff_iff]; simp [wrdM, wordM] <;> try omega), h3⟩
 ·skip
  ·skip
   go_enter Tryz.func185, Tryz.ntmps185
   go_upto_region 1 with fail
   generalize w.alloc (.cells X 71) = w1 at *
   generalize w.heap.size = B at *
   clear HBX
   go_wp2
   go_ret
   exact ⟨ret_bool (by rw [Bool.eq_iff_iff]; simp [wrdM, wordM] <;> try omega), h3⟩
 ·skip
  ·skip
   go_enter Tryz.func185, Tryz.ntmps185
   go_upto_region 1 with fail
   generalize w.alloc (.cells X 71) = w1 at *
   generalize w.heap.size = B at *
   clear HBX
   go_wp2
   go_ret
   exact ⟨ret_bool (by rw [Bool.eq_iff_iff]; simp [wrdM, wordM] <;> try omega), h3⟩
 ·skip
  ·skip
   go_enter Tryz.func185, Tryz.ntmps185
   go_upto_region 1 with fail
   generalize w.alloc (.cells X 71) = w1 at *
   generalize w.heap.size = B at *
   clear HBX
   go_wp2
   go_ret
   exact ⟨ret_bool (by rw [Bool.eq_iff_iff]; simp [wrdM, wordM] <;> try omega), h3⟩
 ·skip
  ·skip
   go_enter Tryz.func185, Tryz.ntmps185
   go_upto_region 1 with fail
   generalize w.alloc (.cells X 71) = w1 at *
   generalize w.heap.size = B at *
   clear HBX
   go_wp2
   go_ret
   exact ⟨ret_bool (by rw [Bool.eq_iff_iff]; simp [wrdM, wordM] <;> try omega), h3⟩
 ·skip
  ·skip
   go_enter Tryz.func185, Tryz.ntmps185
   go_upto_region 1 with fail
   generalize w.alloc (.cells X 71) = w1 at *
   generalize w.heap.size = B at *
   clear HBX
   go_wp2
   go_ret
   exact ⟨ret_bool (by rw [Bool.eq_iff_iff]; simp [wrdM, wordM] <;> try omega), h3⟩
 ·skip
  ·skip
   go_enter Tryz.func185, Tryz.ntmps185
   go_upto_region 1 with fail
   generalize w.alloc (.cells X 71) = w1 at *
   generalize w.heap.size = B at *
   clear HBX
   go_wp2
   go_ret
   exact ⟨ret_bool (by rw [Bool.eq_iff_iff]; simp [wrdM, wordM] <;> try omega), h3⟩
 ·have e2 : (k == 2) = false := by simpa using n2
  have e3 : (k == 3) = false := by simpa using n3
  have e4 : (k == 4) = false := by simpa using n4
  have e5 : (k == 5) = false := by simpa using n5
  have e6 : (k == 6) = false := by simpa using n6
  have e7 : (k == 7) = false := by simpa using n7
  have e8 : (k == 8) = false := by simpa using n8
  have e9 : (k == 9) = false := by simpa using n9
  have e10 : (k == 10) = false := by simpa using n10
  have e11 : (k == 11) = false := by simpa using n11
  have e12 : (k == 12) = false := by simpa using n12
  have e13 : (k == 13) = false := by simpa using n13
  have e : wrdM net next proto multi k = false := by simp [wrdM, wordM, n2, n3, n4, n5, n6, n7, n8, n9, n10, n11, n12, n13]
  rw [e]
  clear e n2 n3 n4 n5 n6 n7 n8 n9 n10 n11 n12 n13
  ·skip
   go_enter Tryz.func185, Tryz.ntmps185
   go_upto_region 1 with fail
   generalize w.alloc (.cells X 71) = w1 at *
   generalize w.heap.size = B at *
   clear HBX
   go_wp2
   go_ret
   exact ⟨rfl, h3⟩

end Go.Proofs.YtcodofamdhcfiaaGreat
