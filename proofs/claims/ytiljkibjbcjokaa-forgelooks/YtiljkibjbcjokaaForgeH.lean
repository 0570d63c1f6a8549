/-
  Package forge as landed: piece, network.
-/
import Derived.Test.YtiljkibjbcjokaaForgeE
namespace Go.Proofs.Ytiljkibjbcjokaa
open Go.RowKit
set_option maxRecDepth 100000

def netV (s : Sp) : List UInt8 := if s.proto = 33 then ip4V s else if s.proto = 87 then ip6V s else []

set_option maxRecDepth 100000 in
theorem fnetwork_any (s : Sp) (a : Option Addr) (ca : Nat) (w : World) (ok : s.ok) (hn : s.data.length ≤ 140737488355328) (hx : 0 ≤ s.next ∧ s.next ≤ 255) : Calls Try.prog 30 #[.agg (spA s a ca)] w fun e w' => ∃ v, e = .returned v ∧ Owns w' w.heap.size v (netV s) ∧ w.grownBy w' none := by
  have S0 : SAt (w.alloc (.cells (spA s a ca) 28)) w.heap.size s a ca := ⟨VAt.alloc w _ _, ok⟩
  have G0 : w.grownBy (w.alloc (.cells (spA s a ca) 28)) none := World.grownBy_alloc _ _ _
  have HSS : Hid ((Try.prog.info? 28).map (·.size) = some (spA s a ca).size) := spA_size ok a ca
  have HOK : Hid s.ok := ok
  have c6 := S0.eight.2.2.2.2.2.2.1
  have SK := S0.1
  clear S0 ok
  by_cases h33 : s.proto = 33
  · have e : netV s = ip4V s := by rw [netV, if_pos h33]
    rw [e]
    rw [h33] at c6
    clear e
    go_enter Try.func30, Try.ntmps30
    go_upto_region 3 with fail
    generalize w.alloc (.cells (spA s a ca) 28) = w1 at *
    have HSZ : Hid (w.heap.size ≤ w1.heap.size) := G0.size
    obtain ⟨C, hC⟩ : ∃ C, w.heap.size = C := ⟨_, rfl⟩
    rw [hC] at SK ⊢
    clear hC c6
    go_wp2_with (refine wpList_load_row rfl 28 (.tmp 1) rfl C rfl 28 (spA s a ca) (0, 0) _ SK Try.underlying28 rfl HSS.out ?_)
    refine (fip_any s a ca _ HOK.out hn hx).mono ?_
    rintro e w2 ⟨v, rfl, O2, K2⟩
    clear SK
    go_wp2
    go_ret
    exact ⟨_, rfl, owns_mono O2 HSZ.out, grown_trans G0 K2⟩
  · by_cases h87 : s.proto = 87
    · have e : netV s = ip6V s := by rw [netV, if_neg h33, if_pos h87]
      rw [e]
      rw [h87] at c6
      clear e
      go_enter Try.func30, Try.ntmps30
      go_upto_region 5 with fail
      generalize w.alloc (.cells (spA s a ca) 28) = w1 at *
      have HSZ : Hid (w.heap.size ≤ w1.heap.size) := G0.size
      obtain ⟨C, hC⟩ : ∃ C, w.heap.size = C := ⟨_, rfl⟩
      rw [hC] at SK ⊢
      clear hC c6
      go_wp2_with (refine wpList_load_row rfl 28 (.tmp 1) rfl C rfl 28 (spA s a ca) (0, 0) _ SK Try.underlying28 rfl HSS.out ?_)
      refine (fip6_any s a ca _ HOK.out hn hx).mono ?_
      rintro e w2 ⟨v, rfl, O2, K2⟩
      clear SK
      go_wp2
      go_ret
      exact ⟨_, rfl, owns_mono O2 HSZ.out, grown_trans G0 K2⟩
    · have e : netV s = [] := by rw [netV, if_neg h33, if_neg h87]
      rw [e]
      have h1 : ((s.proto : Int) == 33) = false := by rw [beq_eq_false_iff_ne]; omega
      have h2 : ((s.proto : Int) == 87) = false := by rw [beq_eq_false_iff_ne]; omega
      clear e SK
      go_enter Try.func30, Try.ntmps30
      go_wp2
      go_ret
      exact ⟨_, rfl, World.ownsRow_nil _ _ _ _, G0⟩

/-- A link, a spec and a layout in their blocks. -/
abbrev LSY (w : World) (B C Y : Nat) (l : Lk) (s : Sp) (a : Option Addr) (ca : Nat) (y : Array Value) (W : World) : Prop := LS w B C l s a ca W ∧ VAt W Y 63 y
theorem lsy_call {w W W' : World} {B C Y : Nat} {l : Lk} {s : Sp} {a : Option Addr} {ca : Nat} {y : Array Value} (K : W.grownBy W' none) (h : LSY w B C Y l s a ca y W) : LSY w B C Y l s a ca y W' := ⟨ls_call K h.1, h.2.kept K⟩

set_option maxRecDepth 100000 in
set_option maxHeartbeats 4000000 in
theorem fpiece_lay (l : Lk) (s : Sp) (a : Option Addr) (ca : Nat) (w : World) (ok : s.ok) (hmu : s.multi = true) (y : Lay) (hy : layA l.mp = y.arr) (hsz : y.sz = 2 ∨ y.sz = 4) (R : List UInt8) (N : Nat) (hN4 : N ≤ 4294967295) (hR : fieldV l s.plain 61 ++ bytesV y.sz N = R)
    (n1 : Nat) (hb : s.beg = true → bits .or .u32 (s.seq : Int) (y.B : Int) = (n1 : Int)) (hnb : s.beg = false → n1 = s.seq) (hf : s.fin = true → bits .or .u32 (n1 : Int) (y.E : Int) = (N : Int)) (hnf : s.fin = false → N = n1) :
    Calls Try.prog 28 #[.agg (lkA l), .agg (spA s a ca)] w fun e w' => ∃ v, e = .returned v ∧ Owns w' w.heap.size v R ∧ w.grownBy w' none := by
  have I := ls_boxes w l s a ca
  have HLS : Hid ((Try.prog.info? 23).map (·.size) = some (lkA l).size) := size23
  have HSS : Hid ((Try.prog.info? 28).map (·.size) = some (spA s a ca).size) := spA_size ok a ca
  have HOK : Hid s.ok := ok
  have HLY : Hid (∀ W : World, Calls Try.prog 47 #[.int .i64 l.mp] W fun e w' => e = .returned (.agg y.arr) ∧ W.grownBy w' none) := by
    intro W
    have k := layout_any l.mp W
    rw [hy] at k
    exact k
  obtain ⟨sz, B', E', Z', S'⟩ := y
  simp only [Lay.arr] at *
  have HNU : Hid (∀ W : World, Calls Try.prog 62 #[.int .i64 (sz : Int), .int .u32 (N : Int)] W fun e w' => ∃ u, e = .returned u ∧ Owns w' W.heap.size u (bytesV sz N) ∧ W.grownBy w' none) := fun W => number_any sz N sz rfl (.inr hsz) hN4 W
  have HF : Hid (∀ W : World, Calls Try.prog 60 #[.agg (lkA l), .agg (spA s a ca), .int .u32 61] W fun e w' => ∃ v, e = .returned v ∧ Owns w' W.heap.size v (fieldV l s.plain 61) ∧ W.grownBy w' none) := fun W => lfield_any l s a ca 61 W ok (by omega)
  have HR : Hid (fieldV l s.plain 61 ++ bytesV sz N = R) := hR
  have HFL : Hid ((fieldV l s.plain 61).length ≤ 2 ∧ (bytesV sz N).length = sz) := ⟨by rcases field_len l s.plain 61 with h | h <;> omega, bytesV_len _ _⟩
  clear hy hR ok
  go_enter Try.func28, Try.ntmps28
  go_upto_region 1 with fail
  generalize (w.alloc (.cells (lkA l) 23)).alloc (.cells (spA s a ca) 28) = w1 at *
  obtain ⟨B, hB⟩ : ∃ B, w.heap.size = B := ⟨_, rfl⟩
  obtain ⟨C, hC⟩ : ∃ C, w.heap.size + 1 = C := ⟨_, rfl⟩
  rw [hC, hB] at I ⊢
  clear hB hC
  have c2 := (show SAt w1 C s a ca from ⟨I.2.1, HOK.out⟩).eight.2.2.1
  rw [hmu] at c2
  have x2 : w1.cell? ⟨B, 2, none⟩ = some (.int .i64 l.mp) := I.1.cell 2
  go_wp2_with fail
  refine (HLY.out _).mono ?_
  rintro e w2 ⟨rfl, K2⟩
  have I2 := ls_call K2 I
  clear I K2 c2 x2 HLY
  go_upto_region 4 with fail
  have YA := VAt.alloc w2 63 #[.int .i64 (sz : Int), .int .u32 (B' : Int), .int .u32 (E' : Int), .int .u32 (Z' : Int), .int .u32 (S' : Int)]
  have I3 := ls_call (World.grownBy_alloc w2 (.cells #[.int .i64 (sz : Int), .int .u32 (B' : Int), .int .u32 (E' : Int), .int .u32 (Z' : Int), .int .u32 (S' : Int)] 63) none) I2
  generalize w2.alloc (.cells #[.int .i64 (sz : Int), .int .u32 (B' : Int), .int .u32 (E' : Int), .int .u32 (Z' : Int), .int .u32 (S' : Int)] 63) = w3 at *
  generalize w2.heap.size = Y at *
  clear I2
  have S3 : SAt w3 C s a ca := ⟨I3.2.1, HOK.out⟩
  obtain ⟨-, -, -, c3, c4, c5, -, -⟩ := S3.eight
  have y1 : w3.cell? ⟨Y, 1, none⟩ = some (.int .u32 (B' : Int)) := YA.cell 1
  have y2 : w3.cell? ⟨Y, 2, none⟩ = some (.int .u32 (E' : Int)) := YA.cell 2
  clear S3
  go_upto_if 16 with fail
  go_cut [6, 16] from 17 to 20 (fun v _ wx => v = .int .u32 (n1 : Int) ∧ wx = w3)
  case first =>
    cases hbg : s.beg with
    | false =>
      rw [hbg] at c3
      have := hnb hbg
      subst this
      go_wp2
      go_meet
      exact ⟨rfl, rfl⟩
    | true =>
      rw [hbg] at c3
      have := hb hbg
      go_wp2
      go_meet
      exact ⟨rfl, rfl⟩
  case rest =>
  obtain ⟨rfl, rfl⟩ := hcut
  generalize wc = w3 at *
  go_upto_if 22 with fail
  go_cut [6, 22] from 23 to 26 (fun v _ wx => v = .int .u32 (N : Int) ∧ wx = w3)
  case first =>
    cases hfi : s.fin with
    | false =>
      rw [hfi] at c4
      have := hnf hfi
      subst this
      go_wp2
      go_meet
      exact ⟨rfl, rfl⟩
    | true =>
      rw [hfi] at c4
      have := hf hfi
      go_wp2
      go_meet
      exact ⟨rfl, rfl⟩
  case rest =>
  obtain ⟨rfl, rfl⟩ := hcut
  generalize wc = w3 at *
  clear c3 c4 c5 y1 y2 hb hf hnb hnf
  have G3 := I3.2.2
  have J3 : LSY w3 B C Y l s a ca #[.int .i64 (sz : Int), .int .u32 (B' : Int), .int .u32 (E' : Int), .int .u32 (Z' : Int), .int .u32 (S' : Int)] w3 := ⟨⟨I3.1, I3.2.1, World.grownBy.refl _ _⟩, YA⟩
  clear YA I3
  go_upto_region 9 with fail
  refine wp_region_held_drew (S := fun W => LSY w3 B C Y l s a ca #[.int .i64 (sz : Int), .int .u32 (B' : Int), .int .u32 (E' : Int), .int .u32 (Z' : Int), .int .u32 (S' : Int)] W) (by kernel_rfl) (lsy_call (grown_drewN w3 1 none) J3) (fun hHeld => ?_)
  clear J3
  refine wpAnyH_take (i := 0) (v := .agg (lkA l)) rfl (by kernel_rfl) (by kernel_rfl) (by kernel_rfl) (fun _ _ _ h => h) (yieldsIf_load_row (by rfl) _ _ rfl B rfl 23 (lkA l) _ (fun W hW => hW.1.1) Try.underlying23 rfl HLS.out) hHeld ?_
  try simp only [Act.put, List.getElem_toArray, List.getElem_cons_zero, List.setIfInBounds_toArray, List.set_cons_zero, List.set_cons_succ]
  refine wpAnyH_take (i := 1) (v := .agg (spA s a ca)) rfl (by kernel_rfl) (by kernel_rfl) (by kernel_rfl) (fun _ _ _ h => h) (yieldsIf_load_row (by rfl) _ _ rfl C rfl 28 (spA s a ca) _ (fun W hW => hW.1.2.1) Try.underlying28 rfl HSS.out) hHeld ?_
  try simp only [Act.put, List.getElem_toArray, List.getElem_cons_zero, List.getElem_cons_succ, List.setIfInBounds_toArray, List.set_cons_zero, List.set_cons_succ]
  refine wpAnyH_take (i := 3) (v := .pointer (some ⟨Y, 0, none⟩)) rfl (by kernel_rfl) (by kernel_rfl) (by kernel_rfl) (fun _ _ _ h => h) (Or.inl ⟨by rfl, fun W hW => ?_⟩) hHeld ?_
  · clear hW
    go_simp
  try simp only [Act.put, List.getElem_toArray, List.getElem_cons_zero, List.getElem_cons_succ, List.setIfInBounds_toArray, List.set_cons_zero, List.set_cons_succ]
  refine wpAnyH_take (i := 4) (v := .int .i64 (sz : Int)) rfl (by kernel_rfl) (by kernel_rfl) (by kernel_rfl) (fun _ _ _ h => h) (Or.inl ⟨by rfl, fun W hW => ?_⟩) hHeld ?_
  · have c : W.cell? ⟨Y, 0, none⟩ = some (.int .i64 (sz : Int)) := hW.2.cell 0
    clear hW
    go_simp
  try simp only [Act.put, List.getElem_toArray, List.getElem_cons_zero, List.getElem_cons_succ, List.setIfInBounds_toArray, List.set_cons_zero, List.set_cons_succ]
  refine wpAnyH_take (i := 5) (v := .int .u32 (N : Int)) rfl (by kernel_rfl) (by kernel_rfl) (by kernel_rfl) (fun _ _ _ h => h) (Or.inl ⟨by rfl, fun W hW => ?_⟩) hHeld ?_
  · clear hW
    go_simp
  try simp only [Act.put, List.getElem_toArray, List.getElem_cons_zero, List.getElem_cons_succ, List.setIfInBounds_toArray, List.set_cons_zero, List.set_cons_succ]
  refine wpAnyH_ready (rs := [2]) (by kernel_rfl) (by simp) (AllReadyH.cons rfl (fun K hK => ?_) AllReadyH.nil)
  go_simp
  refine (HF.out _).mono ?_
  rintro e w4 ⟨u1, rfl, O1, K1⟩
  obtain ⟨a1, k1, rfl, C1, z1⟩ := O1.cells
  clear O1
  go_wp2_with fail
  refine hK.out _ _ (lsy_call K1 hHeld) (fun hHeld => ?_)
  clear hK K K1
  try simp only [Act.put, List.getElem_toArray, List.getElem_cons_zero, List.getElem_cons_succ, List.setIfInBounds_toArray, List.set_cons_zero, List.set_cons_succ]
  refine wpAnyH_ready (rs := [6]) (by kernel_rfl) (by simp) (AllReadyH.cons rfl (fun K hK => ?_) AllReadyH.nil)
  go_simp
  refine (HNU.out _).mono ?_
  rintro e w5 ⟨u2, rfl, O2, K2⟩
  obtain ⟨a2, k2, rfl, C2, z2⟩ := O2.cells
  have C1' := C1.keptNone K2
  clear O2 C1
  go_wp2_with fail
  refine hK.out _ _ (lsy_call K2 hHeld) (fun hHeld => ?_)
  clear hK K K2
  try simp only [Act.put, List.getElem_toArray, List.getElem_cons_zero, List.getElem_cons_succ, List.setIfInBounds_toArray, List.set_cons_zero, List.set_cons_succ]
  have hs5 := hHeld.1.2.2.size
  refine wpAnyH_ready (rs := [7]) (by kernel_rfl) (by simp) (AllReadyH.cons rfl (fun K hK => ?_) AllReadyH.nil)
  go_simp
  refine hK.out _ _ (lsy_call (World.grownBy_alloc _ _ _) hHeld) (fun hHeld => ?_)
  clear hK K
  try simp only [Act.put, List.getElem_toArray, List.getElem_cons_zero, List.getElem_cons_succ, List.setIfInBounds_toArray, List.set_cons_zero, List.set_cons_succ]
  refine wpAnyH_ready (rs := [8]) (by kernel_rfl) (by simp) (AllReadyH.cons rfl (fun K hK => ?_) AllReadyH.nil)
  go_simp
  refine (join_two _ C1' z1 C2 z2 (by have := HFL.out; omega)).mono ?_
  rintro e w6 ⟨u3, rfl, O3, K3⟩
  go_wp2_with fail
  refine hK.out _ _ (lsy_call K3 hHeld) (fun hHeld => ?_)
  clear hK K K3
  try simp only [Act.put, List.getElem_toArray, List.getElem_cons_zero, List.getElem_cons_succ, List.setIfInBounds_toArray, List.set_cons_zero, List.set_cons_succ]
  refine wpAnyH_take (i := 9) (v := u3) rfl (by kernel_rfl) (by kernel_rfl) (by kernel_rfl) (fun _ _ _ h => h) (Or.inl ⟨by rfl, fun W hW => ?_⟩) hHeld ?_
  · clear hW
    go_simp
  try simp only [Act.put, List.getElem_toArray, List.getElem_cons_zero, List.getElem_cons_succ, List.setIfInBounds_toArray, List.set_cons_zero, List.set_cons_succ]
  refine wpAnyH_done (by kernel_rfl) ?_ _
  have G6 := grown_trans G3 hHeld.1.2.2
  have hs3 := G3.size
  rw [HR.out] at O3
  clear hHeld C1' C2
  go_wp2
  go_ret
  exact ⟨_, rfl, owns_mono O3 (by omega), G6⟩

theorem fpiece_any (l : Lk) (s : Sp) (a : Option Addr) (ca : Nat) (w : World) (ok : s.ok) (hp : s.multi = true → (l.mp = 1 ∨ l.mp = 2) ∧ s.seq < spV l) :
    Calls Try.prog 28 #[.agg (lkA l), .agg (spA s a ca)] w fun e w' => ∃ v, e = .returned v ∧ Owns w' w.heap.size v (pieceB l s) ∧ w.grownBy w' none := by
  cases hm : s.multi with
  | false =>
    have e : pieceB l s = [] := by rw [pieceB, if_neg (by rw [hm]; simp)]
    rw [e]
    have I := ls_boxes w l s a ca
    have c2 := (show SAt _ _ s a ca from ⟨I.2.1, ok⟩).eight.2.2.1
    have G := I.2.2
    rw [hm] at c2
    clear I e ok
    go_enter Try.func28, Try.ntmps28
    go_wp2
    go_ret
    exact ⟨_, rfl, World.ownsRow_nil _ _ _ _, G⟩
  | true =>
    obtain ⟨h1, h2⟩ := hp hm
    have e : pieceB l s = fieldV l s.plain 61 ++ hdB l s.beg s.fin s.seq := by rw [pieceB, if_pos hm]
    rw [e]
    unfold spV at h2
    rcases h1 with h1 | h1
    · have hn2 : ¬ l.mp = 2 := by omega
      rw [if_neg hn2] at h2
      have hN : hdN l s.beg s.fin s.seq = ((if s.beg = true then s.seq ||| 32768 else s.seq) ||| (if s.fin = true then 16384 else 0)) := by
        have := hd_bits 14 s.seq s.beg s.fin (by omega)
        rw [hdN, tpV, if_neg hn2]
        exact this.symm
      have hNb : hdN l s.beg s.fin s.seq ≤ 4294967295 := by
        unfold hdN tpV
        rw [if_neg hn2]
        cases s.beg <;> cases s.fin <;> simp <;> omega
      have eh : hdB l s.beg s.fin s.seq = bytesV 2 (hdN l s.beg s.fin s.seq) := by rw [hdB, if_neg hn2, be2_eq]
      have hlt : (if s.beg = true then s.seq ||| 32768 else s.seq) < 4294967296 := by
        split
        · exact Nat.or_lt_two_pow (n := 32) (by omega) (by omega)
        · omega
      rw [eh]
      refine fpiece_lay l s a ca w ok hm ⟨2, 32768, 16384, 12288, 4095⟩ (by rw [layA, if_pos h1]; rfl) (.inl rfl) _ (hdN l s.beg s.fin s.seq) hNb rfl (if s.beg = true then s.seq ||| 32768 else s.seq) ?_ ?_ ?_ ?_
      · intro hb
        rw [if_pos hb]
        exact u32_or_nat s.seq 32768 (by omega) (by omega)
      · intro hb
        rw [if_neg (by rw [hb]; simp)]
      · intro hf
        rw [hN, if_pos hf]
        exact u32_or_nat _ 16384 hlt (by omega)
      · intro hf
        rw [hN]
        rw [if_neg (c := s.fin = true) (by rw [hf]; simp), Nat.or_zero]
    · rw [if_pos h1] at h2
      have hN : hdN l s.beg s.fin s.seq = ((if s.beg = true then s.seq ||| 2147483648 else s.seq) ||| (if s.fin = true then 1073741824 else 0)) := by
        have := hd_bits 30 s.seq s.beg s.fin (by omega)
        rw [hdN, tpV, if_pos h1]
        exact this.symm
      have hNb : hdN l s.beg s.fin s.seq ≤ 4294967295 := by
        unfold hdN tpV
        rw [if_pos h1]
        cases s.beg <;> cases s.fin <;> simp <;> omega
      have eh : hdB l s.beg s.fin s.seq = bytesV 4 (hdN l s.beg s.fin s.seq) := by rw [hdB, if_pos h1, be4_eq]
      have hlt : (if s.beg = true then s.seq ||| 2147483648 else s.seq) < 4294967296 := by
        split
        · exact Nat.or_lt_two_pow (n := 32) (by omega) (by omega)
        · omega
      rw [eh]
      refine fpiece_lay l s a ca w ok hm ⟨4, 2147483648, 1073741824, 1056964608, 16777215⟩ (by rw [layA, if_neg (by omega)]; rfl) (.inr rfl) _ (hdN l s.beg s.fin s.seq) hNb rfl (if s.beg = true then s.seq ||| 2147483648 else s.seq) ?_ ?_ ?_ ?_
      · intro hb
        rw [if_pos hb]
        exact u32_or_nat s.seq 2147483648 (by omega) (by omega)
      · intro hb
        rw [if_neg (by rw [hb]; simp)]
      · intro hf
        rw [hN, if_pos hf]
        exact u32_or_nat _ 1073741824 hlt (by omega)
      · intro hf
        rw [hN]
        rw [if_neg (c := s.fin = true) (by rw [hf]; simp), Nat.or_zero]

end Go.Proofs.Ytiljkibjbcjokaa
