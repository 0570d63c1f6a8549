/-
  The landed layout of a multilink header: its bytes. Package forge as landed: piece, network.
-/
import Derived.Test.YtnojpepjloceoaaGreatLotP7
import Derived.Test.YtnojpepjloceoaaGreatLotP4
import Derived.Test.YtnojpepjloceoaaGreatLotP5
import Derived.Deep.DeepCutAuto
import Derived.Test.YtnojpepjloceoaaGreatForgeE
namespace Go.Proofs.YtnojpepjloceoaaGreat
open Go.RowKit
set_option maxRecDepth 100000

/-- Noughts made in a statement whose order is open. -/
theorem step_make {P : Program} {ops : Array Oper} {o : Oper} {a : Act} {w : World} {K : Act → World → Prop} {Q : Exit → Act → World → Prop} {E : Prop}
    (hgd : o.guard = none) (t : TypeId) (x y : Operand) (ho : o.op = .makeSlice t x y) (n : Nat) (hx : a.eval x = .int .i64 (n : Int)) (hy : a.eval y = .int .i64 (n : Int))
    (hr : ∀ W : World, (Instr.makeSlice t (.int .i64 (n : Int)) (.int .i64 (n : Int))).run P W = .ok (.slice (some ⟨W.heap.size, 0, none⟩) n n) (W.alloc (.cells ((List.replicate n (0 : UInt8)).map bv).toArray 5)))
    (hK : ∀ ad w', Cells w' (some ad) (List.replicate n 0) → w.grownBy w' none → K (a.put o.dst (.slice (some ad) n n)) w') :
    if Region.wanted o (yielded ops a.tmps) = true then Oper.wp P o a w K Q else E := by
  have hw : Region.wanted o (yielded ops a.tmps) = true := by simp [Region.wanted, hgd]
  rw [if_pos hw]
  unfold Oper.wp execOp
  simp only [ho, hx, hy, Sem.run_bind, Sem.run_pure, Result.andThen_ok, hr w]
  exact hK _ _ (cells_lit w _) (World.grownBy_alloc _ _ _)

theorem make2 (W : World) : (Instr.makeSlice 26 (.int .i64 ((2 : Nat) : Int)) (.int .i64 ((2 : Nat) : Int))).run Tryz.prog W = .ok (.slice (some ⟨W.heap.size, 0, none⟩) 2 2) (W.alloc (.cells ((List.replicate 2 (0 : UInt8)).map bv).toArray 5)) := by kernel_rfl
theorem make4 (W : World) : (Instr.makeSlice 26 (.int .i64 ((4 : Nat) : Int)) (.int .i64 ((4 : Nat) : Int))).run Tryz.prog W = .ok (.slice (some ⟨W.heap.size, 0, none⟩) 4 4) (W.alloc (.cells ((List.replicate 4 (0 : UInt8)).map bv).toArray 5)) := by kernel_rfl

/-- Noughts, and a number put into them. -/
theorem put_new (S v : Nat) (hS : S = 1 ∨ S = 2 ∨ S = 4) (hv : v ≤ 4294967295) (ad : Addr) (W : World) (C : Cells W (some ad) (List.replicate S 0)) :
    Calls Tryz.prog 48 #[.slice (some ad) S S, .int .i64 0, .int .i64 (S : Int), .int .u32 (v : Int)] W fun e w' => ∃ u, e = .returned (.tuple #[u, .bool true]) ∧ Owns w' W.heap.size u (bytesV S v) ∧ W.grownBy w' none := by
  have hp := put_any (some ad) S (List.replicate S 0) 0 S v W C (by simp) (by simp; omega) hv
  rw [(bytesV_put S v hS).1, (bytesV_put S v hS).2, List.length_replicate] at hp
  exact hp

set_option maxRecDepth 100000 in
set_option maxHeartbeats 4000000 in
theorem lhead_lay (beg fin : Bool) (seq : Nat) (w : World) (y : Lay) (hsz : y.sz = 2 ∨ y.sz = 4) (N : Nat) (hN4 : N ≤ 4294967295)
    (n1 : Nat) (hb : beg = true → bits .or .u32 (seq : Int) (y.B : Int) = (n1 : Int)) (hnb : beg = false → n1 = seq) (hf : fin = true → bits .or .u32 (n1 : Int) (y.E : Int) = (N : Int)) (hnf : fin = false → N = n1) :
    Calls Tryz.prog 42 #[.agg y.arr, .bool beg, .bool fin, .int .u32 (seq : Int)] w fun e w' => ∃ v, e = .returned v ∧ Owns w' w.heap.size v (bytesV y.sz N) ∧ w.grownBy w' none := by
  obtain ⟨sz, B', E', Z', S'⟩ := y
  simp only [Lay.arr] at *
  have HPU : Hid (∀ (ad : Addr) (W : World), Cells W (some ad) (List.replicate sz 0) → Calls Tryz.prog 48 #[.slice (some ad) sz sz, .int .i64 0, .int .i64 (sz : Int), .int .u32 (N : Int)] W fun e w' => ∃ u, e = .returned (.tuple #[u, .bool true]) ∧ Owns w' W.heap.size u (bytesV sz N) ∧ W.grownBy w' none) := fun ad W C => put_new sz N (.inr hsz) hN4 ad W C
  have HMK : Hid (∀ W : World, (Instr.makeSlice 26 (.int .i64 (sz : Int)) (.int .i64 (sz : Int))).run Tryz.prog W = .ok (.slice (some ⟨W.heap.size, 0, none⟩) sz sz) (W.alloc (.cells ((List.replicate sz (0 : UInt8)).map bv).toArray 5))) := by
    show ∀ W : World, _
    intro W
    rcases hsz with h | h
    · subst h; exact make2 W
    · subst h; exact make4 W
  clear hsz
  have YA := VAt.alloc w 58 #[.int .i64 (sz : Int), .int .u32 (B' : Int), .int .u32 (E' : Int), .int .u32 (Z' : Int), .int .u32 (S' : Int)]
  have G0 := World.grownBy_alloc w (.cells #[.int .i64 (sz : Int), .int .u32 (B' : Int), .int .u32 (E' : Int), .int .u32 (Z' : Int), .int .u32 (S' : Int)] 58) none
  go_enter Tryz.func42, Tryz.ntmps42
  go_upto_region 1 with fail
  generalize w.alloc (.cells #[.int .i64 (sz : Int), .int .u32 (B' : Int), .int .u32 (E' : Int), .int .u32 (Z' : Int), .int .u32 (S' : Int)] 58) = w3 at *
  obtain ⟨Y, hY⟩ : ∃ Y, w.heap.size = Y := ⟨_, rfl⟩
  rw [hY] at YA ⊢
  have HY : Hid (w.heap.size = Y) := hY
  clear hY
  have y1 : w3.cell? ⟨Y, 1, none⟩ = some (.int .u32 (B' : Int)) := YA.cell 1
  have y2 : w3.cell? ⟨Y, 2, none⟩ = some (.int .u32 (E' : Int)) := YA.cell 2
  go_upto_if 13 with fail
  go_cut [1, 9, 13] from 14 to 17 (fun q v _ wx => q = .bool beg ∧ v = .int .u32 (n1 : Int) ∧ wx = w3)
  case first =>
    cases hbg : beg with
    | false =>
      have := hnb hbg
      subst this
      go_wp2
      go_meet
      exact ⟨by rw [hbg], rfl, rfl⟩
    | true =>
      have := hb hbg
      go_wp2
      go_meet
      exact ⟨by rw [hbg], rfl, rfl⟩
  case rest =>
  obtain ⟨rfl, rfl, rfl⟩ := hcut
  generalize wc = w3 at *
  go_upto_if 18 with fail
  go_cut [2, 9, 18] from 19 to 22 (fun q v _ wx => q = .bool fin ∧ v = .int .u32 (N : Int) ∧ wx = w3)
  case first =>
    cases hfi : fin with
    | false =>
      have := hnf hfi
      subst this
      go_wp2
      go_meet
      exact ⟨by rw [hfi], rfl, rfl⟩
    | true =>
      have := hf hfi
      go_wp2
      go_meet
      exact ⟨by rw [hfi], rfl, rfl⟩
  case rest =>
  obtain ⟨rfl, rfl, rfl⟩ := hcut
  generalize wc = w3 at *
  clear y1 y2 hb hf hnb hnf
  go_upto_region 6 with fail
  refine wp_region_held_drew (S := fun W => VAt W Y 58 #[.int .i64 (sz : Int), .int .u32 (B' : Int), .int .u32 (E' : Int), .int .u32 (Z' : Int), .int .u32 (S' : Int)] ∧ w3.grownBy W none) (by kernel_rfl) ⟨YA.kept (grown_drewN w3 1 none), grown_drewN w3 1 none⟩ (fun hHeld => ?_)
  clear YA
  refine wpAnyH_take (i := 0) (v := .pointer (some ⟨Y, 0, none⟩)) rfl (by kernel_rfl) (by kernel_rfl) (by kernel_rfl) (fun _ _ _ h => h) (Or.inl ⟨by rfl, fun W hW => ?_⟩) hHeld ?_
  · clear hW
    go_simp
  try simp only [Act.put, List.getElem_toArray, List.getElem_cons_zero, List.setIfInBounds_toArray, List.set_cons_zero, List.set_cons_succ]
  refine wpAnyH_take (i := 1) (v := .int .i64 (sz : Int)) rfl (by kernel_rfl) (by kernel_rfl) (by kernel_rfl) (fun _ _ _ h => h) (Or.inl ⟨by rfl, fun W hW => ?_⟩) hHeld ?_
  · have c : W.cell? ⟨Y, 0, none⟩ = some (.int .i64 (sz : Int)) := hW.1.cell 0
    clear hW
    go_simp
  try simp only [Act.put, List.getElem_toArray, List.getElem_cons_zero, List.getElem_cons_succ, List.setIfInBounds_toArray, List.set_cons_zero, List.set_cons_succ]
  refine wpAnyH_take (i := 3) (v := .pointer (some ⟨Y, 0, none⟩)) rfl (by kernel_rfl) (by kernel_rfl) (by kernel_rfl) (fun _ _ _ h => h) (Or.inl ⟨by rfl, fun W hW => ?_⟩) hHeld ?_
  · clear hW
    go_simp
  try simp only [Act.put, List.getElem_toArray, List.getElem_cons_zero, List.getElem_cons_succ, List.setIfInBounds_toArray, List.set_cons_zero, List.set_cons_succ]
  refine wpAnyH_take (i := 4) (v := .int .i64 (sz : Int)) rfl (by kernel_rfl) (by kernel_rfl) (by kernel_rfl) (fun _ _ _ h => h) (Or.inl ⟨by rfl, fun W hW => ?_⟩) hHeld ?_
  · have c : W.cell? ⟨Y, 0, none⟩ = some (.int .i64 (sz : Int)) := hW.1.cell 0
    clear hW
    go_simp
  try simp only [Act.put, List.getElem_toArray, List.getElem_cons_zero, List.getElem_cons_succ, List.setIfInBounds_toArray, List.set_cons_zero, List.set_cons_succ]
  refine wpAnyH_take (i := 5) (v := .int .u32 (N : Int)) rfl (by kernel_rfl) (by kernel_rfl) (by kernel_rfl) (fun _ _ _ h => h) (Or.inl ⟨by rfl, fun W hW => ?_⟩) hHeld ?_
  · clear hW
    go_simp
  try simp only [Act.put, List.getElem_toArray, List.getElem_cons_zero, List.getElem_cons_succ, List.setIfInBounds_toArray, List.set_cons_zero, List.set_cons_succ]
  refine wpAnyH_ready (rs := [2]) (by kernel_rfl) (by simp) (AllReadyH.cons rfl (fun K hK => ?_) AllReadyH.nil)
  refine step_make (by rfl) 26 _ _ (by rfl) sz (by rfl) (by rfl) HMK.out ?_
  intro ad w4 C4 K4
  refine hK.out _ _ ⟨hHeld.1.kept K4, grown_trans hHeld.2 K4⟩ (fun hHeld => ?_)
  clear hK K K4
  try simp only [Act.put, List.getElem_toArray, List.getElem_cons_zero, List.getElem_cons_succ, List.setIfInBounds_toArray, List.set_cons_zero, List.set_cons_succ]
  refine wpAnyH_ready (rs := [6]) (by kernel_rfl) (by simp) (AllReadyH.cons rfl (fun K hK => ?_) AllReadyH.nil)
  go_simp
  refine (HPU.out ad w4 C4).mono ?_
  rintro e w5 ⟨u, rfl, O5, K5⟩
  have hs4 := hHeld.2.size
  clear C4
  go_wp2_with fail
  refine hK.out _ _ ⟨hHeld.1.kept K5, grown_trans hHeld.2 K5⟩ (fun hHeld => ?_)
  clear hK K K5
  try simp only [Act.put, List.getElem_toArray, List.getElem_cons_zero, List.getElem_cons_succ, List.setIfInBounds_toArray, List.set_cons_zero, List.set_cons_succ]
  refine wpAnyH_take (i := 7) (v := .tuple #[u, .bool true]) rfl (by kernel_rfl) (by kernel_rfl) (by kernel_rfl) (fun _ _ _ h => h) (Or.inl ⟨by rfl, fun W hW => ?_⟩) hHeld ?_
  · clear hW
    go_simp
  try simp only [Act.put, List.getElem_toArray, List.getElem_cons_zero, List.getElem_cons_succ, List.setIfInBounds_toArray, List.set_cons_zero, List.set_cons_succ]
  refine wpAnyH_take (i := 8) (v := u) rfl (by kernel_rfl) (by kernel_rfl) (by kernel_rfl) (fun _ _ _ h => h) (Or.inl ⟨by rfl, fun W hW => ?_⟩) hHeld ?_
  · clear hW
    go_simp
  try simp only [Act.put, List.getElem_toArray, List.getElem_cons_zero, List.getElem_cons_succ, List.setIfInBounds_toArray, List.set_cons_zero, List.set_cons_succ]
  refine wpAnyH_take (i := 9) (v := .bool true) rfl (by kernel_rfl) (by kernel_rfl) (by kernel_rfl) (fun _ _ _ h => h) (Or.inl ⟨by rfl, fun W hW => ?_⟩) hHeld ?_
  · clear hW
    go_simp
  try simp only [Act.put, List.getElem_toArray, List.getElem_cons_zero, List.getElem_cons_succ, List.setIfInBounds_toArray, List.set_cons_zero, List.set_cons_succ]
  refine wpAnyH_take (i := 10) (v := u) rfl (by kernel_rfl) (by kernel_rfl) (by kernel_rfl) (fun _ _ _ h => h) (Or.inl ⟨by rfl, fun W hW => ?_⟩) hHeld ?_
  · clear hW
    go_simp
  try simp only [Act.put, List.getElem_toArray, List.getElem_cons_zero, List.getElem_cons_succ, List.setIfInBounds_toArray, List.set_cons_zero, List.set_cons_succ]
  refine wpAnyH_take (i := 11) (v := .bool true) rfl (by kernel_rfl) (by kernel_rfl) (by kernel_rfl) (fun _ _ _ h => h) (Or.inl ⟨by rfl, fun W hW => ?_⟩) hHeld ?_
  · clear hW
    go_simp
  try simp only [Act.put, List.getElem_toArray, List.getElem_cons_zero, List.getElem_cons_succ, List.setIfInBounds_toArray, List.set_cons_zero, List.set_cons_succ]
  refine wpAnyH_done (by kernel_rfl) ?_ _
  have G6 := grown_trans G0 hHeld.2
  have hs3 := G0.size
  clear hHeld
  go_wp2
  go_ret
  exact ⟨_, rfl, owns_mono O5 (by have := HY.out; omega), G6⟩
  
theorem lhead_any (l : Lk) (beg fin : Bool) (seq : Nat) (w : World) (h1 : l.mp = 1 ∨ l.mp = 2) (h2 : seq < spV l) :
    Calls Tryz.prog 42 #[.agg (layA l.mp), .bool beg, .bool fin, .int .u32 (seq : Int)] w fun e w' => ∃ v, e = .returned v ∧ Owns w' w.heap.size v (hdB l beg fin seq) ∧ w.grownBy w' none := by
  unfold spV at h2
  rcases h1 with h1 | h1
  · have hn2 : ¬ l.mp = 2 := by omega
    rw [if_neg hn2] at h2
    have hN : hdN l beg fin seq = ((if beg = true then seq ||| 32768 else seq) ||| (if fin = true then 16384 else 0)) := by
      have := hd_bits 14 seq beg fin (by omega)
      rw [hdN, tpV, if_neg hn2]
      exact this.symm
    have hNb : hdN l beg fin seq ≤ 4294967295 := by
      unfold hdN tpV
      rw [if_neg hn2]
      cases beg <;> cases fin <;> simp <;> omega
    have eh : hdB l beg fin seq = bytesV 2 (hdN l beg fin seq) := by rw [hdB, if_neg hn2, be2_eq]
    have hlt : (if beg = true then seq ||| 32768 else seq) < 4294967296 := by
      split
      · exact Nat.or_lt_two_pow (n := 32) (by omega) (by omega)
      · omega
    rw [eh, show layA l.mp = (⟨2, 32768, 16384, 12288, 4095⟩ : Lay).arr by rw [layA, if_pos h1]; rfl]
    refine lhead_lay beg fin seq w ⟨2, 32768, 16384, 12288, 4095⟩ (.inl rfl) (hdN l beg fin seq) hNb (if beg = true then seq ||| 32768 else seq) ?_ ?_ ?_ ?_
    · intro hb
      rw [if_pos hb]
      exact u32_or_nat seq 32768 (by omega) (by omega)
    · intro hb
      rw [if_neg (by rw [hb]; simp)]
    · intro hf
      rw [hN, if_pos hf]
      exact u32_or_nat _ 16384 hlt (by omega)
    · intro hf
      rw [hN]
      rw [if_neg (c := fin = true) (by rw [hf]; simp), Nat.or_zero]
  · rw [if_pos h1] at h2
    have hN : hdN l beg fin seq = ((if beg = true then seq ||| 2147483648 else seq) ||| (if fin = true then 1073741824 else 0)) := by
      have := hd_bits 30 seq beg fin (by omega)
      rw [hdN, tpV, if_pos h1]
      exact this.symm
    have hNb : hdN l beg fin seq ≤ 4294967295 := by
      unfold hdN tpV
      rw [if_pos h1]
      cases beg <;> cases fin <;> simp <;> omega
    have eh : hdB l beg fin seq = bytesV 4 (hdN l beg fin seq) := by rw [hdB, if_pos h1, be4_eq]
    have hlt : (if beg = true then seq ||| 2147483648 else seq) < 4294967296 := by
      split
      · exact Nat.or_lt_two_pow (n := 32) (by omega) (by omega)
      · omega
    rw [eh, show layA l.mp = (⟨4, 2147483648, 1073741824, 1056964608, 16777215⟩ : Lay).arr by rw [layA, if_neg (by omega)]; rfl]
    refine lhead_lay beg fin seq w ⟨4, 2147483648, 1073741824, 1056964608, 16777215⟩ (.inr rfl) (hdN l beg fin seq) hNb (if beg = true then seq ||| 2147483648 else seq) ?_ ?_ ?_ ?_
    · intro hb
      rw [if_pos hb]
      exact u32_or_nat seq 2147483648 (by omega) (by omega)
    · intro hb
      rw [if_neg (by rw [hb]; simp)]
    · intro hf
      rw [hN, if_pos hf]
      exact u32_or_nat _ 1073741824 hlt (by omega)
    · intro hf
      rw [hN]
      rw [if_neg (c := fin = true) (by rw [hf]; simp), Nat.or_zero]

end Go.Proofs.YtnojpepjloceoaaGreat

namespace Go.Proofs.YtnojpepjloceoaaGreat
open Go.RowKit
set_option maxRecDepth 100000

def fnetV (s : Sp) : List UInt8 := if s.proto = 33 then ip4V s else if s.proto = 87 then ip6V s else []

set_option maxRecDepth 100000 in
theorem fnetwork_any (s : Sp) (a : Option Addr) (ca : Nat) (w : World) (ok : s.ok) (hn : s.data.length ≤ 140737488355328) (hx : 0 ≤ s.next ∧ s.next ≤ 255) : Calls Tryz.prog 16 #[.agg (spA s a ca)] w fun e w' => ∃ v, e = .returned v ∧ Owns w' w.heap.size v (fnetV s) ∧ w.grownBy w' none := by
  have S0 : SAt (w.alloc (.cells (spA s a ca) 28)) w.heap.size s a ca := ⟨VAt.alloc w _ _, ok⟩
  have G0 : w.grownBy (w.alloc (.cells (spA s a ca) 28)) none := World.grownBy_alloc _ _ _
  have HSS : Hid ((Tryz.prog.info? 28).map (·.size) = some (spA s a ca).size) := spA_size ok a ca
  have HOK : Hid s.ok := ok
  have c6 := S0.eight.2.2.2.2.2.2.1
  have SK := S0.1
  clear S0 ok
  by_cases h33 : s.proto = 33
  · have e : fnetV s = ip4V s := by rw [fnetV, if_pos h33]
    rw [e]
    rw [h33] at c6
    clear e
    go_enter Tryz.func16, Tryz.ntmps16
    go_upto_region 3 with fail
    generalize w.alloc (.cells (spA s a ca) 28) = w1 at *
    have HSZ : Hid (w.heap.size ≤ w1.heap.size) := G0.size
    obtain ⟨C, hC⟩ : ∃ C, w.heap.size = C := ⟨_, rfl⟩
    rw [hC] at SK ⊢
    clear hC c6
    go_wp2_with (refine wpList_load_row rfl 28 (.tmp 1) rfl C rfl 28 (spA s a ca) (0, 0) _ SK Tryz.underlying28 rfl HSS.out ?_)
    refine (fip_any s a ca _ HOK.out hn hx).mono ?_
    rintro e w2 ⟨v, rfl, O2, K2⟩
    clear SK
    go_wp2
    go_ret
    exact ⟨_, rfl, owns_mono O2 HSZ.out, grown_trans G0 K2⟩
  · by_cases h87 : s.proto = 87
    · have e : fnetV s = ip6V s := by rw [fnetV, if_neg h33, if_pos h87]
      rw [e]
      rw [h87] at c6
      clear e
      go_enter Tryz.func16, Tryz.ntmps16
      go_upto_region 5 with fail
      generalize w.alloc (.cells (spA s a ca) 28) = w1 at *
      have HSZ : Hid (w.heap.size ≤ w1.heap.size) := G0.size
      obtain ⟨C, hC⟩ : ∃ C, w.heap.size = C := ⟨_, rfl⟩
      rw [hC] at SK ⊢
      clear hC c6
      go_wp2_with (refine wpList_load_row rfl 28 (.tmp 1) rfl C rfl 28 (spA s a ca) (0, 0) _ SK Tryz.underlying28 rfl HSS.out ?_)
      refine (fip6_any s a ca _ HOK.out hn hx).mono ?_
      rintro e w2 ⟨v, rfl, O2, K2⟩
      clear SK
      go_wp2
      go_ret
      exact ⟨_, rfl, owns_mono O2 HSZ.out, grown_trans G0 K2⟩
    · have e : fnetV s = [] := by rw [fnetV, if_neg h33, if_neg h87]
      rw [e]
      have h1 : ((s.proto : Int) == 33) = false := by rw [beq_eq_false_iff_ne]; omega
      have h2 : ((s.proto : Int) == 87) = false := by rw [beq_eq_false_iff_ne]; omega
      clear e SK
      go_enter Tryz.func16, Tryz.ntmps16
      go_wp2
      go_ret
      exact ⟨_, rfl, World.ownsRow_nil _ _ _ _, G0⟩

set_option maxRecDepth 100000 in
set_option maxHeartbeats 4000000 in
theorem fpiece_multi (l : Lk) (s : Sp) (a : Option Addr) (ca : Nat) (w : World) (ok : s.ok) (hmu : s.multi = true) (hm : l.mp = 1 ∨ l.mp = 2) (hs : s.seq < spV l) :
    Calls Tryz.prog 14 #[.agg (lkA l), .agg (spA s a ca)] w fun e w' => ∃ v, e = .returned v ∧ Owns w' w.heap.size v (fieldV l s.plain 61 ++ hdB l s.beg s.fin s.seq) ∧ w.grownBy w' none := by
  have I := ls_boxes w l s a ca
  have HLS : Hid ((Tryz.prog.info? 23).map (·.size) = some (lkA l).size) := size23
  have HSS : Hid ((Tryz.prog.info? 28).map (·.size) = some (spA s a ca).size) := spA_size ok a ca
  have HOK : Hid s.ok := ok
  have HLY : Hid (∀ W : World, Calls Tryz.prog 26 #[.int .i64 l.mp] W fun e w' => e = .returned (.agg (layA l.mp)) ∧ W.grownBy w' none) := fun W => layout_any l.mp W
  have HHD : Hid (∀ W : World, Calls Tryz.prog 42 #[.agg (layA l.mp), .bool s.beg, .bool s.fin, .int .u32 (s.seq : Int)] W fun e w' => ∃ v, e = .returned v ∧ Owns w' W.heap.size v (hdB l s.beg s.fin s.seq) ∧ W.grownBy w' none) := fun W => lhead_any l s.beg s.fin s.seq W hm hs
  have HF : Hid (∀ W : World, Calls Tryz.prog 39 #[.agg (lkA l), .agg (spA s a ca), .int .u32 61] W fun e w' => ∃ v, e = .returned v ∧ Owns w' W.heap.size v (fieldV l s.plain 61) ∧ W.grownBy w' none) := fun W => lfield_any l s a ca 61 W ok (by omega)
  have HFL : Hid ((fieldV l s.plain 61).length ≤ 2 ∧ (hdB l s.beg s.fin s.seq).length ≤ 4) := ⟨by rcases field_len l s.plain 61 with h | h <;> omega, by rw [hd_len]; unfold szV; split <;> omega⟩
  clear ok hm hs
  go_enter Tryz.func14, Tryz.ntmps14
  go_upto_region 1 with fail
  generalize (w.alloc (.cells (lkA l) 23)).alloc (.cells (spA s a ca) 28) = w1 at *
  obtain ⟨B, hB⟩ : ∃ B, w.heap.size = B := ⟨_, rfl⟩
  obtain ⟨C, hC⟩ : ∃ C, w.heap.size + 1 = C := ⟨_, rfl⟩
  have HBw : Hid (w.heap.size = B) := hB
  rw [hC, hB] at I ⊢
  clear hB hC
  have c2 := (show SAt w1 C s a ca from ⟨I.2.1, HOK.out⟩).eight.2.2.1
  rw [hmu] at c2
  go_upto_region 3 with fail
  clear c2
  refine wp_region_held_drew (S := fun W => LS w B C l s a ca W) (by kernel_rfl) (ls_call (grown_drewN w1 1 none) I) (fun hHeld => ?_)
  clear I
  refine wpAnyH_take (i := 0) (v := .pointer (some ⟨B, 2, none⟩)) rfl (by kernel_rfl) (by kernel_rfl) (by kernel_rfl) (fun _ _ _ h => h) (Or.inl ⟨by rfl, fun W hW => ?_⟩) hHeld ?_
  · clear hW
    go_simp
  try simp only [Act.put, List.getElem_toArray, List.getElem_cons_zero, List.setIfInBounds_toArray, List.set_cons_zero, List.set_cons_succ]
  refine wpAnyH_take (i := 1) (v := .int .i64 l.mp) rfl (by kernel_rfl) (by kernel_rfl) (by kernel_rfl) (fun _ _ _ h => h) (Or.inl ⟨by rfl, fun W hW => ?_⟩) hHeld ?_
  · have c : W.cell? ⟨B, 2, none⟩ = some (.int .i64 l.mp) := hW.1.cell 2
    clear hW
    go_simp
  try simp only [Act.put, List.getElem_toArray, List.getElem_cons_zero, List.getElem_cons_succ, List.setIfInBounds_toArray, List.set_cons_zero, List.set_cons_succ]
  refine wpAnyH_take (i := 3) (v := .pointer (some ⟨C, 3, none⟩)) rfl (by kernel_rfl) (by kernel_rfl) (by kernel_rfl) (fun _ _ _ h => h) (Or.inl ⟨by rfl, fun W hW => ?_⟩) hHeld ?_
  · clear hW
    go_simp
  try simp only [Act.put, List.getElem_toArray, List.getElem_cons_zero, List.getElem_cons_succ, List.setIfInBounds_toArray, List.set_cons_zero, List.set_cons_succ]
  refine wpAnyH_take (i := 4) (v := .bool s.beg) rfl (by kernel_rfl) (by kernel_rfl) (by kernel_rfl) (fun _ _ _ h => h) (Or.inl ⟨by rfl, fun W hW => ?_⟩) hHeld ?_
  · obtain ⟨-, -, -, c, -⟩ := (show SAt W C s a ca from ⟨hW.2.1, HOK.out⟩).eight
    clear hW
    go_simp
  try simp only [Act.put, List.getElem_toArray, List.getElem_cons_zero, List.getElem_cons_succ, List.setIfInBounds_toArray, List.set_cons_zero, List.set_cons_succ]
  refine wpAnyH_take (i := 5) (v := .pointer (some ⟨C, 4, none⟩)) rfl (by kernel_rfl) (by kernel_rfl) (by kernel_rfl) (fun _ _ _ h => h) (Or.inl ⟨by rfl, fun W hW => ?_⟩) hHeld ?_
  · clear hW
    go_simp
  try simp only [Act.put, List.getElem_toArray, List.getElem_cons_zero, List.getElem_cons_succ, List.setIfInBounds_toArray, List.set_cons_zero, List.set_cons_succ]
  refine wpAnyH_take (i := 6) (v := .bool s.fin) rfl (by kernel_rfl) (by kernel_rfl) (by kernel_rfl) (fun _ _ _ h => h) (Or.inl ⟨by rfl, fun W hW => ?_⟩) hHeld ?_
  · obtain ⟨-, -, -, -, c, -⟩ := (show SAt W C s a ca from ⟨hW.2.1, HOK.out⟩).eight
    clear hW
    go_simp
  try simp only [Act.put, List.getElem_toArray, List.getElem_cons_zero, List.getElem_cons_succ, List.setIfInBounds_toArray, List.set_cons_zero, List.set_cons_succ]
  refine wpAnyH_take (i := 7) (v := .pointer (some ⟨C, 5, none⟩)) rfl (by kernel_rfl) (by kernel_rfl) (by kernel_rfl) (fun _ _ _ h => h) (Or.inl ⟨by rfl, fun W hW => ?_⟩) hHeld ?_
  · clear hW
    go_simp
  try simp only [Act.put, List.getElem_toArray, List.getElem_cons_zero, List.getElem_cons_succ, List.setIfInBounds_toArray, List.set_cons_zero, List.set_cons_succ]
  refine wpAnyH_take (i := 8) (v := .int .u32 (s.seq : Int)) rfl (by kernel_rfl) (by kernel_rfl) (by kernel_rfl) (fun _ _ _ h => h) (Or.inl ⟨by rfl, fun W hW => ?_⟩) hHeld ?_
  · obtain ⟨-, -, -, -, -, c, -⟩ := (show SAt W C s a ca from ⟨hW.2.1, HOK.out⟩).eight
    clear hW
    go_simp
  try simp only [Act.put, List.getElem_toArray, List.getElem_cons_zero, List.getElem_cons_succ, List.setIfInBounds_toArray, List.set_cons_zero, List.set_cons_succ]
  refine wpAnyH_ready (rs := [2]) (by kernel_rfl) (by simp) (AllReadyH.cons rfl (fun K hK => ?_) AllReadyH.nil)
  go_simp
  refine (HLY.out _).mono ?_
  rintro e w4 ⟨rfl, K1⟩
  go_wp2_with fail
  refine hK.out _ _ (ls_call K1 hHeld) (fun hHeld => ?_)
  clear hK K K1
  try simp only [Act.put, List.getElem_toArray, List.getElem_cons_zero, List.getElem_cons_succ, List.setIfInBounds_toArray, List.set_cons_zero, List.set_cons_succ]
  refine wpAnyH_ready (rs := [9]) (by kernel_rfl) (by simp) (AllReadyH.cons rfl (fun K hK => ?_) AllReadyH.nil)
  go_simp
  have hs4 := hHeld.2.2.size
  refine (HHD.out _).mono ?_
  rintro e w5 ⟨u2, rfl, O2, K2⟩
  obtain ⟨a2, k2, rfl, C2, z2⟩ := O2.cells
  clear O2
  go_wp2_with fail
  refine hK.out _ _ (ls_call K2 hHeld) (fun hHeld => ?_)
  clear hK K K2
  try simp only [Act.put, List.getElem_toArray, List.getElem_cons_zero, List.getElem_cons_succ, List.setIfInBounds_toArray, List.set_cons_zero, List.set_cons_succ]
  refine wpAnyH_take (i := 10) (v := .slice a2 (hdB l s.beg s.fin s.seq).length k2) rfl (by kernel_rfl) (by kernel_rfl) (by kernel_rfl) (fun _ _ _ h => h) (Or.inl ⟨by rfl, fun W hW => ?_⟩) hHeld ?_
  · clear hW
    go_simp
  try simp only [Act.put, List.getElem_toArray, List.getElem_cons_zero, List.getElem_cons_succ, List.setIfInBounds_toArray, List.set_cons_zero, List.set_cons_succ]
  refine wpAnyH_done (by kernel_rfl) ?_ _
  have LB := hHeld.1
  have LC := hHeld.2.1
  have G5 := hHeld.2.2
  have HC2 : Hid (Cells w5 a2 (hdB l s.beg s.fin s.seq) ∧ (a2 = none → k2 = 0)) := ⟨C2, z2⟩
  clear hHeld C2 z2 HLY HHD
  go_wp2_with (first
    | refine wpList_load_row rfl 23 (.tmp 2) rfl B rfl 23 (lkA l) (0, 0) _ LB Tryz.underlying23 rfl HLS.out ?_
    | refine wpList_load_row rfl 28 (.tmp 3) rfl C rfl 28 (spA s a ca) (0, 0) _ LC Tryz.underlying28 rfl HSS.out ?_)
  refine (HF.out _).mono ?_
  rintro e w6 ⟨u1, rfl, O1, K6⟩
  obtain ⟨a1, k1, rfl, C1, z1⟩ := O1.cells
  have JN := join_two (W := w6) 26 C1 z1 (HC2.out.1.keptNone K6) HC2.out.2 (by have := HFL.out; omega)
  have G6 := grown_trans G5 K6
  clear O1 C1 z1 K6 LB LC G5
  go_wp2_with fail
  refine JN.mono ?_
  rintro e w7 ⟨u3, rfl, O3, K7⟩
  have G7 := grown_trans G6 (grown_trans (World.grownBy_alloc w6 _ none) K7)
  have HO : Hid (Owns w7 w.heap.size u3 (fieldV l s.plain 61 ++ hdB l s.beg s.fin s.seq)) := owns_mono O3 G6.size
  clear JN O3 K7 G6
  go_wp2
  go_ret
  exact ⟨_, rfl, HO.out, G7⟩

theorem fpiece_any (l : Lk) (s : Sp) (a : Option Addr) (ca : Nat) (w : World) (ok : s.ok) (hp : s.multi = true → (l.mp = 1 ∨ l.mp = 2) ∧ s.seq < spV l) :
    Calls Tryz.prog 14 #[.agg (lkA l), .agg (spA s a ca)] w fun e w' => ∃ v, e = .returned v ∧ Owns w' w.heap.size v (pieceB l s) ∧ w.grownBy w' none := by
  cases hm : s.multi with
  | false =>
    have e : pieceB l s = [] := by rw [pieceB, if_neg (by rw [hm]; simp)]
    rw [e]
    have I := ls_boxes w l s a ca
    have c2 := (show SAt _ _ s a ca from ⟨I.2.1, ok⟩).eight.2.2.1
    have G := I.2.2
    rw [hm] at c2
    clear I e ok
    go_enter Tryz.func14, Tryz.ntmps14
    go_wp2
    go_ret
    exact ⟨_, rfl, World.ownsRow_nil _ _ _ _, G⟩
  | true =>
    obtain ⟨h1, h2⟩ := hp hm
    have e : pieceB l s = fieldV l s.plain 61 ++ hdB l s.beg s.fin s.seq := by rw [pieceB, if_pos hm]
    rw [e]
    exact fpiece_multi l s a ca w ok hm h1 h2

end Go.Proofs.YtnojpepjloceoaaGreat
