/-
  The landed layout of a multilink header: its bytes.
-/
import Derived.Test.YtfjjmeanmlimoaaWalkD
import Derived.Test.YtfjjmeanmlimoaaForgeR
import Derived.Test.YtfjjmeanmlimoaaPutW
import Derived.Test.YtfjjmeanmlimoaaHand
import Derived.Deep.DeepCutAuto
namespace Go.Proofs.Ytfjjmeanmlimoaa
open Go.RowKit
set_option maxRecDepth 100000

/-- Noughts made in a statement whose order is open. -/
theorem step_make {P : Program} {ops : Array Oper} {o : Oper} {a : Act} {w : World} {K : Act → World → Prop} {Q : Exit → Act → World → Prop} {E : Prop}
    (hgd : o.guard = none) (t : TypeId) (x y : Operand) (ho : o.op = .makeSlice t x y) (n : Nat) (hx : a.eval x = .int .i64 (n : Int)) (hy : a.eval y = .int .i64 (n : Int))
    (hr : ∀ W : World, (Instr.makeSlice t (.int .i64 (n : Int)) (.int .i64 (n : Int))).run P W = .ok (.slice (some ⟨W.heap.size, 0, none⟩) n n) (W.alloc (.cells ((List.replicate n (0 : UInt8)).map bv).toArray 5)))
    (hK : ∀ ad w', Cells w' (some ad) (List.replicate n 0) → w.grownBy w' none → K (a.put o.dst (.slice (some ad) n n)) w') :
    if Region.wanted o (yielded ops a.tmps) = true then Oper.wp P o a w K Q else E := by
  have hw : Region.wanted o (yielded ops a.tmps) = true := by simp [Region.wanted, hgd]
  rw [if_pos hw]
  unfold Oper.wp execOp
  simp only [ho, hx, hy, Sem.run_bind, Sem.run_pure, Result.andThen_ok, hr w]
  exact hK _ _ (cells_lit w _) (World.grownBy_alloc _ _ _)

theorem make2 (W : World) : (Instr.makeSlice 26 (.int .i64 ((2 : Nat) : Int)) (.int .i64 ((2 : Nat) : Int))).run Try.prog W = .ok (.slice (some ⟨W.heap.size, 0, none⟩) 2 2) (W.alloc (.cells ((List.replicate 2 (0 : UInt8)).map bv).toArray 5)) := by kernel_rfl
theorem make4 (W : World) : (Instr.makeSlice 26 (.int .i64 ((4 : Nat) : Int)) (.int .i64 ((4 : Nat) : Int))).run Try.prog W = .ok (.slice (some ⟨W.heap.size, 0, none⟩) 4 4) (W.alloc (.cells ((List.replicate 4 (0 : UInt8)).map bv).toArray 5)) := by kernel_rfl

/-- Noughts, and a number put into them. -/
theorem put_new (S v : Nat) (hS : S = 1 ∨ S = 2 ∨ S = 4) (hv : v ≤ 4294967295) (ad : Addr) (W : World) (C : Cells W (some ad) (List.replicate S 0)) :
    Calls Try.prog 70 #[.slice (some ad) S S, .int .i64 0, .int .i64 (S : Int), .int .u32 (v : Int)] W fun e w' => ∃ u, e = .returned (.tuple #[u, .bool true]) ∧ Owns w' W.heap.size u (bytesV S v) ∧ W.grownBy w' none := by
  have hp := put_any (some ad) S (List.replicate S 0) 0 S v W C (by simp) (by simp; omega) hv
  rw [(bytesV_put S v hS).1, (bytesV_put S v hS).2, List.length_replicate] at hp
  exact hp

set_option maxRecDepth 100000 in
set_option maxHeartbeats 4000000 in
theorem lhead_lay (beg fin : Bool) (seq : Nat) (w : World) (y : Lay) (hsz : y.sz = 2 ∨ y.sz = 4) (N : Nat) (hN4 : N ≤ 4294967295)
    (n1 : Nat) (hb : beg = true → bits .or .u32 (seq : Int) (y.B : Int) = (n1 : Int)) (hnb : beg = false → n1 = seq) (hf : fin = true → bits .or .u32 (n1 : Int) (y.E : Int) = (N : Int)) (hnf : fin = false → N = n1) :
    Calls Try.prog 63 #[.agg y.arr, .bool beg, .bool fin, .int .u32 (seq : Int)] w fun e w' => ∃ v, e = .returned v ∧ Owns w' w.heap.size v (bytesV y.sz N) ∧ w.grownBy w' none := by
  obtain ⟨sz, B', E', Z', S'⟩ := y
  simp only [Lay.arr] at *
  have HPU : Hid (∀ (ad : Addr) (W : World), Cells W (some ad) (List.replicate sz 0) → Calls Try.prog 70 #[.slice (some ad) sz sz, .int .i64 0, .int .i64 (sz : Int), .int .u32 (N : Int)] W fun e w' => ∃ u, e = .returned (.tuple #[u, .bool true]) ∧ Owns w' W.heap.size u (bytesV sz N) ∧ W.grownBy w' none) := fun ad W C => put_new sz N (.inr hsz) hN4 ad W C
  have HMK : Hid (∀ W : World, (Instr.makeSlice 26 (.int .i64 (sz : Int)) (.int .i64 (sz : Int))).run Try.prog W = .ok (.slice (some ⟨W.heap.size, 0, none⟩) sz sz) (W.alloc (.cells ((List.replicate sz (0 : UInt8)).map bv).toArray 5))) := by
    show ∀ W : World, _
    intro W
    rcases hsz with h | h
    · subst h; exact make2 W
    · subst h; exact make4 W
  clear hsz
  have YA := VAt.alloc w 63 #[.int .i64 (sz : Int), .int .u32 (B' : Int), .int .u32 (E' : Int), .int .u32 (Z' : Int), .int .u32 (S' : Int)]
  have G0 := World.grownBy_alloc w (.cells #[.int .i64 (sz : Int), .int .u32 (B' : Int), .int .u32 (E' : Int), .int .u32 (Z' : Int), .int .u32 (S' : Int)] 63) none
  go_enter Try.func63, Try.ntmps63
  go_upto_region 1 with fail
  generalize w.alloc (.cells #[.int .i64 (sz : Int), .int .u32 (B' : Int), .int .u32 (E' : Int), .int .u32 (Z' : Int), .int .u32 (S' : Int)] 63) = w3 at *
  obtain ⟨Y, hY⟩ : ∃ Y, w.heap.size = Y := ⟨_, rfl⟩
  rw [hY] at YA ⊢
  have HY : Hid (w.heap.size = Y) := hY
  clear hY
  have y1 : w3.cell? ⟨Y, 1, none⟩ = some (.int .u32 (B' : Int)) := YA.cell 1
  have y2 : w3.cell? ⟨Y, 2, none⟩ = some (.int .u32 (E' : Int)) := YA.cell 2
  go_upto_if 13 with fail
  go_cut [1, 9, 13] from 14 to 17 (fun q v _ wx => q = .bool beg ∧ v = .int .u32 (n1 : Int) ∧ wx = w3)
  case first =>
    cases hbg : beg with
    | false =>
      have := hnb hbg
      subst this
      go_wp2
      go_meet
      exact ⟨by rw [hbg], rfl, rfl⟩
    | true =>
      have := hb hbg
      go_wp2
      go_meet
      exact ⟨by rw [hbg], rfl, rfl⟩
  case rest =>
  obtain ⟨rfl, rfl, rfl⟩ := hcut
  generalize wc = w3 at *
  go_upto_if 18 with fail
  go_cut [2, 9, 18] from 19 to 22 (fun q v _ wx => q = .bool fin ∧ v = .int .u32 (N : Int) ∧ wx = w3)
  case first =>
    cases hfi : fin with
    | false =>
      have := hnf hfi
      subst this
      go_wp2
      go_meet
      exact ⟨by rw [hfi], rfl, rfl⟩
    | true =>
      have := hf hfi
      go_wp2
      go_meet
      exact ⟨by rw [hfi], rfl, rfl⟩
  case rest =>
  obtain ⟨rfl, rfl, rfl⟩ := hcut
  generalize wc = w3 at *
  clear y1 y2 hb hf hnb hnf
  go_upto_region 6 with fail
  refine wp_region_held_drew (S := fun W => VAt W Y 63 #[.int .i64 (sz : Int), .int .u32 (B' : Int), .int .u32 (E' : Int), .int .u32 (Z' : Int), .int .u32 (S' : Int)] ∧ w3.grownBy W none) (by kernel_rfl) ⟨YA.kept (grown_drewN w3 1 none), grown_drewN w3 1 none⟩ (fun hHeld => ?_)
  clear YA
  refine wpAnyH_take (i := 0) (v := .pointer (some ⟨Y, 0, none⟩)) rfl (by kernel_rfl) (by kernel_rfl) (by kernel_rfl) (fun _ _ _ h => h) (Or.inl ⟨by rfl, fun W hW => ?_⟩) hHeld ?_
  · clear hW
    go_simp
  try simp only [Act.put, List.getElem_toArray, List.getElem_cons_zero, List.setIfInBounds_toArray, List.set_cons_zero, List.set_cons_succ]
  refine wpAnyH_take (i := 1) (v := .int .i64 (sz : Int)) rfl (by kernel_rfl) (by kernel_rfl) (by kernel_rfl) (fun _ _ _ h => h) (Or.inl ⟨by rfl, fun W hW => ?_⟩) hHeld ?_
  · have c : W.cell? ⟨Y, 0, none⟩ = some (.int .i64 (sz : Int)) := hW.1.cell 0
    clear hW
    go_simp
  try simp only [Act.put, List.getElem_toArray, List.getElem_cons_zero, List.getElem_cons_succ, List.setIfInBounds_toArray, List.set_cons_zero, List.set_cons_succ]
  refine wpAnyH_take (i := 3) (v := .pointer (some ⟨Y, 0, none⟩)) rfl (by kernel_rfl) (by kernel_rfl) (by kernel_rfl) (fun _ _ _ h => h) (Or.inl ⟨by rfl, fun W hW => ?_⟩) hHeld ?_
  · clear hW
    go_simp
  try simp only [Act.put, List.getElem_toArray, List.getElem_cons_zero, List.getElem_cons_succ, List.setIfInBounds_toArray, List.set_cons_zero, List.set_cons_succ]
  refine wpAnyH_take (i := 4) (v := .int .i64 (sz : Int)) rfl (by kernel_rfl) (by kernel_rfl) (by kernel_rfl) (fun _ _ _ h => h) (Or.inl ⟨by rfl, fun W hW => ?_⟩) hHeld ?_
  · have c : W.cell? ⟨Y, 0, none⟩ = some (.int .i64 (sz : Int)) := hW.1.cell 0
    clear hW
    go_simp
  try simp only [Act.put, List.getElem_toArray, List.getElem_cons_zero, List.getElem_cons_succ, List.setIfInBounds_toArray, List.set_cons_zero, List.set_cons_succ]
  refine wpAnyH_take (i := 5) (v := .int .u32 (N : Int)) rfl (by kernel_rfl) (by kernel_rfl) (by kernel_rfl) (fun _ _ _ h => h) (Or.inl ⟨by rfl, fun W hW => ?_⟩) hHeld ?_
  · clear hW
    go_simp
  try simp only [Act.put, List.getElem_toArray, List.getElem_cons_zero, List.getElem_cons_succ, List.setIfInBounds_toArray, List.set_cons_zero, List.set_cons_succ]
  refine wpAnyH_ready (rs := [2]) (by kernel_rfl) (by simp) (AllReadyH.cons rfl (fun K hK => ?_) AllReadyH.nil)
  refine step_make (by rfl) 26 _ _ (by rfl) sz (by rfl) (by rfl) HMK.out ?_
  intro ad w4 C4 K4
  refine hK.out _ _ ⟨hHeld.1.kept K4, grown_trans hHeld.2 K4⟩ (fun hHeld => ?_)
  clear hK K K4
  try simp only [Act.put, List.getElem_toArray, List.getElem_cons_zero, List.getElem_cons_succ, List.setIfInBounds_toArray, List.set_cons_zero, List.set_cons_succ]
  refine wpAnyH_ready (rs := [6]) (by kernel_rfl) (by simp) (AllReadyH.cons rfl (fun K hK => ?_) AllReadyH.nil)
  go_simp
  refine (HPU.out ad w4 C4).mono ?_
  rintro e w5 ⟨u, rfl, O5, K5⟩
  have hs4 := hHeld.2.size
  clear C4
  go_wp2_with fail
  refine hK.out _ _ ⟨hHeld.1.kept K5, grown_trans hHeld.2 K5⟩ (fun hHeld => ?_)
  clear hK K K5
  try simp only [Act.put, List.getElem_toArray, List.getElem_cons_zero, List.getElem_cons_succ, List.setIfInBounds_toArray, List.set_cons_zero, List.set_cons_succ]
  refine wpAnyH_take (i := 7) (v := .tuple #[u, .bool true]) rfl (by kernel_rfl) (by kernel_rfl) (by kernel_rfl) (fun _ _ _ h => h) (Or.inl ⟨by rfl, fun W hW => ?_⟩) hHeld ?_
  · clear hW
    go_simp
  try simp only [Act.put, List.getElem_toArray, List.getElem_cons_zero, List.getElem_cons_succ, List.setIfInBounds_toArray, List.set_cons_zero, List.set_cons_succ]
  refine wpAnyH_take (i := 8) (v := u) rfl (by kernel_rfl) (by kernel_rfl) (by kernel_rfl) (fun _ _ _ h => h) (Or.inl ⟨by rfl, fun W hW => ?_⟩) hHeld ?_
  · clear hW
    go_simp
  try simp only [Act.put, List.getElem_toArray, List.getElem_cons_zero, List.getElem_cons_succ, List.setIfInBounds_toArray, List.set_cons_zero, List.set_cons_succ]
  refine wpAnyH_take (i := 9) (v := .bool true) rfl (by kernel_rfl) (by kernel_rfl) (by kernel_rfl) (fun _ _ _ h => h) (Or.inl ⟨by rfl, fun W hW => ?_⟩) hHeld ?_
  · clear hW
    go_simp
  try simp only [Act.put, List.getElem_toArray, List.getElem_cons_zero, List.getElem_cons_succ, List.setIfInBounds_toArray, List.set_cons_zero, List.set_cons_succ]
  refine wpAnyH_take (i := 10) (v := u) rfl (by kernel_rfl) (by kernel_rfl) (by kernel_rfl) (fun _ _ _ h => h) (Or.inl ⟨by rfl, fun W hW => ?_⟩) hHeld ?_
  · clear hW
    go_simp
  try simp only [Act.put, List.getElem_toArray, List.getElem_cons_zero, List.getElem_cons_succ, List.setIfInBounds_toArray, List.set_cons_zero, List.set_cons_succ]
  refine wpAnyH_take (i := 11) (v := .bool true) rfl (by kernel_rfl) (by kernel_rfl) (by kernel_rfl) (fun _ _ _ h => h) (Or.inl ⟨by rfl, fun W hW => ?_⟩) hHeld ?_
  · clear hW
    go_simp
  try simp only [Act.put, List.getElem_toArray, List.getElem_cons_zero, List.getElem_cons_succ, List.setIfInBounds_toArray, List.set_cons_zero, List.set_cons_succ]
  refine wpAnyH_done (by kernel_rfl) ?_ _
  have G6 := grown_trans G0 hHeld.2
  have hs3 := G0.size
  clear hHeld
  go_wp2
  go_ret
  exact ⟨_, rfl, owns_mono O5 (by have := HY.out; omega), G6⟩
  
theorem lhead_any (l : Lk) (beg fin : Bool) (seq : Nat) (w : World) (h1 : l.mp = 1 ∨ l.mp = 2) (h2 : seq < spV l) :
    Calls Try.prog 63 #[.agg (layA l.mp), .bool beg, .bool fin, .int .u32 (seq : Int)] w fun e w' => ∃ v, e = .returned v ∧ Owns w' w.heap.size v (hdB l beg fin seq) ∧ w.grownBy w' none := by
  unfold spV at h2
  rcases h1 with h1 | h1
  · have hn2 : ¬ l.mp = 2 := by omega
    rw [if_neg hn2] at h2
    have hN : hdN l beg fin seq = ((if beg = true then seq ||| 32768 else seq) ||| (if fin = true then 16384 else 0)) := by
      have := hd_bits 14 seq beg fin (by omega)
      rw [hdN, tpV, if_neg hn2]
      exact this.symm
    have hNb : hdN l beg fin seq ≤ 4294967295 := by
      unfold hdN tpV
      rw [if_neg hn2]
      cases beg <;> cases fin <;> simp <;> omega
    have eh : hdB l beg fin seq = bytesV 2 (hdN l beg fin seq) := by rw [hdB, if_neg hn2, be2_eq]
    have hlt : (if beg = true then seq ||| 32768 else seq) < 4294967296 := by
      split
      · exact Nat.or_lt_two_pow (n := 32) (by omega) (by omega)
      · omega
    rw [eh, show layA l.mp = (⟨2, 32768, 16384, 12288, 4095⟩ : Lay).arr by rw [layA, if_pos h1]; rfl]
    refine lhead_lay beg fin seq w ⟨2, 32768, 16384, 12288, 4095⟩ (.inl rfl) (hdN l beg fin seq) hNb (if beg = true then seq ||| 32768 else seq) ?_ ?_ ?_ ?_
    · intro hb
      rw [if_pos hb]
      exact u32_or_nat seq 32768 (by omega) (by omega)
    · intro hb
      rw [if_neg (by rw [hb]; simp)]
    · intro hf
      rw [hN, if_pos hf]
      exact u32_or_nat _ 16384 hlt (by omega)
    · intro hf
      rw [hN]
      rw [if_neg (c := fin = true) (by rw [hf]; simp), Nat.or_zero]
  · rw [if_pos h1] at h2
    have hN : hdN l beg fin seq = ((if beg = true then seq ||| 2147483648 else seq) ||| (if fin = true then 1073741824 else 0)) := by
      have := hd_bits 30 seq beg fin (by omega)
      rw [hdN, tpV, if_pos h1]
      exact this.symm
    have hNb : hdN l beg fin seq ≤ 4294967295 := by
      unfold hdN tpV
      rw [if_pos h1]
      cases beg <;> cases fin <;> simp <;> omega
    have eh : hdB l beg fin seq = bytesV 4 (hdN l beg fin seq) := by rw [hdB, if_pos h1, be4_eq]
    have hlt : (if beg = true then seq ||| 2147483648 else seq) < 4294967296 := by
      split
      · exact Nat.or_lt_two_pow (n := 32) (by omega) (by omega)
      · omega
    rw [eh, show layA l.mp = (⟨4, 2147483648, 1073741824, 1056964608, 16777215⟩ : Lay).arr by rw [layA, if_neg (by omega)]; rfl]
    refine lhead_lay beg fin seq w ⟨4, 2147483648, 1073741824, 1056964608, 16777215⟩ (.inr rfl) (hdN l beg fin seq) hNb (if beg = true then seq ||| 2147483648 else seq) ?_ ?_ ?_ ?_
    · intro hb
      rw [if_pos hb]
      exact u32_or_nat seq 2147483648 (by omega) (by omega)
    · intro hb
      rw [if_neg (by rw [hb]; simp)]
    · intro hf
      rw [hN, if_pos hf]
      exact u32_or_nat _ 1073741824 hlt (by omega)
    · intro hf
      rw [hN]
      rw [if_neg (c := fin = true) (by rw [hf]; simp), Nat.or_zero]

end Go.Proofs.Ytfjjmeanmlimoaa
