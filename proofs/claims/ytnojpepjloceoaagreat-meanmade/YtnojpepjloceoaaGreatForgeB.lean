/-
  Package forge as landed: ports, behind, piece.
-/
import Derived.Test.YtnojpepjloceoaaGreatLotP6
import Derived.Test.YtnojpepjloceoaaGreatLotP5
import Derived.Test.YtnojpepjloceoaaGreatLotP7
namespace Go.Proofs.YtnojpepjloceoaaGreat
open Go.RowKit
set_option maxRecDepth 100000

theorem cell2_call {w W W' : World} {x y : Addr} {u v : Value} (K : W.grownBy W' none) (h : W.cell? x = some u ∧ W.cell? y = some v ∧ w.grownBy W none) : W'.cell? x = some u ∧ W'.cell? y = some v ∧ w.grownBy W' none :=
  ⟨K.cell h.1 (by simp), K.cell h.2.1 (by simp), grown_trans h.2.2 K⟩
theorem cell2_drew {w W : World} {x y : Addr} {u v : Value} (h : W.cell? x = some u ∧ W.cell? y = some v ∧ w.grownBy W none) : W.drew.cell? x = some u ∧ W.drew.cell? y = some v ∧ w.grownBy W.drew none := cell2_call (grown_drewN W 1 none) h

/-- Two parts joined. -/
theorem join_two {W : World} {a1 a2 : Option Addr} {k1 k2 : Nat} {x1 x2 : List UInt8} (t : TypeId) (C1 : Cells W a1 x1) (z1 : a1 = none → k1 = 0) (C2 : Cells W a2 x2) (z2 : a2 = none → k2 = 0) (hm : x1.length + x2.length ≤ 140737488355328) :
    Calls Tryz.prog 12 #[.slice (some ⟨W.heap.size, 0, none⟩) 2 2] (W.alloc (.cells #[.slice a1 x1.length k1, .slice a2 x2.length k2] t)) fun e w' => ∃ v, e = .returned v ∧ Owns w' W.heap.size v (x1 ++ x2) ∧ (W.alloc (.cells #[.slice a1 x1.length k1, .slice a2 x2.length k2] t)).grownBy w' none := by
  have k := join_lit [⟨a1, k1, x1⟩, ⟨a2, k2, x2⟩] 2 rfl t W (by simpa using ⟨⟨C1, z1⟩, ⟨C2, z2⟩⟩) (by omega) (by simpa [joinS] using hm)
  have e : joinS [⟨a1, k1, x1⟩, ⟨a2, k2, x2⟩] = x1 ++ x2 := by simp [joinS]
  rw [e] at k
  exact k

set_option maxRecDepth 100000 in
set_option maxHeartbeats 2000000 in
theorem fports_any (s : Sp) (a : Option Addr) (ca : Nat) (w : World) (ok : s.ok) : Calls Tryz.prog 17 #[.agg (spA s a ca)] w fun e w' => ∃ v, e = .returned v ∧ Owns w' w.heap.size v (preV8 s) ∧ w.grownBy w' none := by
  have S0 : SAt (w.alloc (.cells (spA s a ca) 28)) w.heap.size s a ca := ⟨VAt.alloc w _ _, ok⟩
  have G0 : w.grownBy (w.alloc (.cells (spA s a ca) 28)) none := World.grownBy_alloc _ _ _
  obtain ⟨c40, c41, c42, -⟩ := S0.four
  have HF := ok.frm
  have HT := ok.til
  clear S0 ok
  cases hp : s.ports with
  | false =>
    rw [hp] at c40
    have e : preV8 s = [] := by rw [preV8, if_neg (by rw [hp]; simp)]
    rw [e]
    go_enter Tryz.func17, Tryz.ntmps17
    go_wp2
    go_ret
    exact ⟨_, rfl, World.ownsRow_nil _ _ _ _, G0⟩
  | true =>
    rw [hp] at c40
    have e : preV8 s = be2 s.frm ++ be2 s.til := by rw [preV8, if_pos hp]
    rw [e]
    clear e
    have N1 : Hid (∀ W : World, Calls Tryz.prog 41 #[.int .i64 2, .int .u32 (s.frm : Int)] W fun e w' => ∃ u, e = .returned u ∧ Owns w' W.heap.size u (be2 s.frm) ∧ W.grownBy w' none) := number2 s.frm HF
    have N2 : Hid (∀ W : World, Calls Tryz.prog 41 #[.int .i64 2, .int .u32 (s.til : Int)] W fun e w' => ∃ u, e = .returned u ∧ Owns w' W.heap.size u (be2 s.til) ∧ W.grownBy w' none) := number2 s.til HT
    have hb2 : ∀ v, (be2 v).length = 2 := fun _ => rfl
    go_enter Tryz.func17, Tryz.ntmps17
    go_upto_region 3 with fail
    generalize w.alloc (.cells (spA s a ca) 28) = w1 at *
    have B0 := cell2_drew (w := w1) ⟨c41, c42, World.grownBy.refl w1 none⟩
    have hsz := G0.size
    clear c40 c41 c42
    go_region_held3 (fun W => W.cell? ⟨w.heap.size, 41, none⟩ = some (.int .u32 (s.frm : Int)) ∧ W.cell? ⟨w.heap.size, 42, none⟩ = some (.int .u32 (s.til : Int)) ∧ w1.grownBy W none)
      (first | (with_reducible assumption) | exact cell2_call K1 (by assumption) | exact cell2_call K2 (by assumption) | exact cell2_call K3 (by assumption) | exact cell2_call (World.grownBy_alloc _ _ _) (by assumption) | exact B0)
      (first
        | (go_at_call_of 41 (Value.int IntKind.u32 (s.frm : Int)); refine (N1.out _).mono ?_; rintro e w2 ⟨u1, rfl, O1, K1⟩; obtain ⟨a1, k1, rfl, C1, z1⟩ := O1.cells; clear O1)
        | (go_at_call_of 41 (Value.int IntKind.u32 (s.til : Int)); refine (N2.out _).mono ?_; rintro e w3 ⟨u2, rfl, O2, K2⟩; obtain ⟨a2, k2, rfl, C2, z2⟩ := O2.cells; have C1' := C1.keptNone K2; clear O2)
        | (go_at_call 12; refine (join_two _ C1' z1 C2 z2 (by rw [hb2, hb2]; omega)).mono ?_; rintro e w4 ⟨u3, rfl, O3, K3⟩))
    rename_i hH4
    have G4 := grown_trans G0 hH4.2.2
    have hs4 := hH4.2.2.size
    have hs3 := (grown_trans (grown_trans (grown_drewN w1 1 none) K1) K2).size
    clear C1 C2 C1' K1 K2 K3 hH4
    go_wp2
    go_ret
    exact ⟨_, rfl, owns_mono O3 (by omega), G4⟩

theorem vs_call {w W W' : World} {C : Nat} {cs : Array Value} {t : TypeId} (K : W.grownBy W' none) (h : VAt W C t cs ∧ w.grownBy W none) : VAt W' C t cs ∧ w.grownBy W' none := ⟨h.1.kept K, grown_trans h.2 K⟩

set_option maxRecDepth 100000 in
set_option maxHeartbeats 2000000 in
theorem fbehind_any (s : Sp) (a : Option Addr) (ca : Nat) (w : World) (ok : s.ok) (hn : s.data.length ≤ 140737488355328) : Calls Tryz.prog 49 #[.agg (spA s a ca)] w fun e w' => e = .returned (.int .i64 ((loadV s).length : Int)) ∧ w.grownBy w' none := by
  have S0 : SAt (w.alloc (.cells (spA s a ca) 28)) w.heap.size s a ca := ⟨VAt.alloc w _ _, ok⟩
  have G0 : w.grownBy (w.alloc (.cells (spA s a ca) 28)) none := World.grownBy_alloc _ _ _
  have HSS : Hid ((Tryz.prog.info? 28).map (·.size) = some (spA s a ca).size) := spA_size ok a ca
  have HOK : Hid s.ok := ok
  have hpl := pre_len s
  obtain ⟨m, hm⟩ : ∃ m, (preV8 s).length = m := ⟨_, rfl⟩
  rw [hm] at hpl
  have e : (((loadV s).length : Nat) : Int) = (m : Int) + (s.data.length : Int) := by rw [load_pre, List.length_append, hm]; omega
  rw [e]
  have HM : Hid ((preV8 s).length = m) := hm
  have hwr : IntKind.i64.wrap ((m : Int) + (s.data.length : Int)) = (m : Int) + (s.data.length : Int) := by rw [IntKind.wrap_i64]; omega
  clear e hm ok
  go_enter Tryz.func49, Tryz.ntmps49
  go_upto_region 1 with fail
  generalize w.alloc (.cells (spA s a ca) 28) = w1 at *
  obtain ⟨C, hC⟩ : ∃ C, w.heap.size = C := ⟨_, rfl⟩
  rw [hC] at S0 ⊢
  clear hC
  refine wp_region_held_drew (S := fun W => VAt W C 28 (spA s a ca) ∧ w1.grownBy W none) (by kernel_rfl) (vs_call (grown_drewN w1 1 none) ⟨S0.1, World.grownBy.refl _ _⟩) (fun hHeld => ?_)
  clear S0
  refine wpAnyH_take (i := 0) (v := .agg (spA s a ca)) rfl (by kernel_rfl) (by kernel_rfl) (by kernel_rfl) (fun _ _ _ h => h) (yieldsIf_load_row (by rfl) _ _ rfl C rfl 28 (spA s a ca) _ (fun W hW => hW.1) Tryz.underlying28 rfl HSS.out) hHeld ?_
  try simp only [Act.put, List.getElem_toArray, List.getElem_cons_zero, List.setIfInBounds_toArray, List.set_cons_zero, List.set_cons_succ]
  refine wpAnyH_take (i := 3) (v := .pointer (some ⟨C, 43, none⟩)) rfl (by kernel_rfl) (by kernel_rfl) (by kernel_rfl) (fun _ _ _ h => h) (Or.inl ⟨by rfl, fun W hW => ?_⟩) hHeld ?_
  · clear hW
    go_simp
  try simp only [Act.put, List.getElem_toArray, List.getElem_cons_zero, List.getElem_cons_succ, List.setIfInBounds_toArray, List.set_cons_zero, List.set_cons_succ]
  refine wpAnyH_take (i := 4) (v := .slice a s.data.length ca) rfl (by kernel_rfl) (by kernel_rfl) (by kernel_rfl) (fun _ _ _ h => h) (Or.inl ⟨by rfl, fun W hW => ?_⟩) hHeld ?_
  · have c := (show SAt W C s a ca from ⟨hW.1, HOK.out⟩).four.2.2.2
    clear hW
    go_simp
  try simp only [Act.put, List.getElem_toArray, List.getElem_cons_zero, List.getElem_cons_succ, List.setIfInBounds_toArray, List.set_cons_zero, List.set_cons_succ]
  refine wpAnyH_take (i := 5) (v := .int .i64 (s.data.length : Int)) rfl (by kernel_rfl) (by kernel_rfl) (by kernel_rfl) (fun _ _ _ h => h) (Or.inl ⟨by rfl, fun W hW => ?_⟩) hHeld ?_
  · clear hW
    go_simp
  try simp only [Act.put, List.getElem_toArray, List.getElem_cons_zero, List.getElem_cons_succ, List.setIfInBounds_toArray, List.set_cons_zero, List.set_cons_succ]
  refine wpAnyH_ready (rs := [1]) (by kernel_rfl) (by simp) (AllReadyH.cons rfl (fun K hK => ?_) AllReadyH.nil)
  go_simp
  refine (fports_any s a ca _ HOK.out).mono ?_
  rintro e w2 ⟨u, rfl, O2, K2⟩
  obtain ⟨a2, k2, rfl, -, -⟩ := O2.cells
  clear O2
  rw [HM.out]
  go_wp2_with fail
  refine hK.out _ _ (vs_call K2 hHeld) (fun hHeld => ?_)
  clear hK K K2
  try simp only [Act.put, List.getElem_toArray, List.getElem_cons_zero, List.getElem_cons_succ, List.setIfInBounds_toArray, List.set_cons_zero, List.set_cons_succ]
  refine wpAnyH_take (i := 2) (v := .int .i64 (m : Int)) rfl (by kernel_rfl) (by kernel_rfl) (by kernel_rfl) (fun _ _ _ h => h) (Or.inl ⟨by rfl, fun W hW => ?_⟩) hHeld ?_
  · clear hW
    go_simp
  try simp only [Act.put, List.getElem_toArray, List.getElem_cons_zero, List.getElem_cons_succ, List.setIfInBounds_toArray, List.set_cons_zero, List.set_cons_succ]
  refine wpAnyH_take (i := 6) (v := .int .i64 ((m : Int) + (s.data.length : Int))) rfl (by kernel_rfl) (by kernel_rfl) (by kernel_rfl) (fun _ _ _ h => h) (Or.inl ⟨by rfl, fun W hW => ?_⟩) hHeld ?_
  · clear hW
    go_simp
  try simp only [Act.put, List.getElem_toArray, List.getElem_cons_zero, List.getElem_cons_succ, List.setIfInBounds_toArray, List.set_cons_zero, List.set_cons_succ]
  refine wpAnyH_take (i := 7) (v := .int .i64 ((m : Int) + (s.data.length : Int))) rfl (by kernel_rfl) (by kernel_rfl) (by kernel_rfl) (fun _ _ _ h => h) (Or.inl ⟨by rfl, fun W hW => ?_⟩) hHeld ?_
  · clear hW
    go_simp
  try simp only [Act.put, List.getElem_toArray, List.getElem_cons_zero, List.getElem_cons_succ, List.setIfInBounds_toArray, List.set_cons_zero, List.set_cons_succ]
  refine wpAnyH_done (by kernel_rfl) ?_ _
  have G2 := grown_trans G0 hHeld.2
  clear hHeld
  go_wp2
  go_ret
  exact ⟨rfl, G2⟩

end Go.Proofs.YtnojpepjloceoaaGreat
