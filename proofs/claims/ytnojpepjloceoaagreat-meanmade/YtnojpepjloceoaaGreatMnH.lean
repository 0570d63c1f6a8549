/-
  Package mean as landed: what a node says that has no parts; loads.
-/
import Derived.Test.YtnojpepjloceoaaGreatMnG
namespace Go.Proofs.YtnojpepjloceoaaGreat
open Go.RowKit
set_option maxRecDepth 100000

/-- What the kinds without parts need of their fields. -/
structure TrOk (x : Ng) : Prop where
  kind : 10 ≤ x.kind ∧ x.kind ≤ 16
  ofs : x.kind = 14 ∨ x.kind = 15 → x.of = 2 ∨ x.of = 3
  bits : x.kind = 15 → 0 ≤ x.bits ∧ x.bits ≤ 8 * (longM x.of : Int)
theorem field_ends (of : Int) (W : World) : (Instr.field 164 (.agg (endsA of)) 2).run Tryz.prog W = .ok (.int .i64 (longM of : Int)) W := by kernel_rfl

set_option maxHeartbeats 4000000 in
theorem truth_any (s : Sg) (a : Option Addr) (ca : Nat) (g : Nat) (v : Value) (x : Ng) (w : World) (R : RD w g s a ca v) (hc : Cells w a s.b) (hk : MSgOk s) (hcap : s.b.length ≤ ca) (hx : TrOk x) :
    Calls Tryz.prog 117 #[.pointer (some ⟨g, 0, none⟩), .agg x.cells.toArray] w fun e w' => e = .returned (.int .i64 (truthM s x)) ∧ w.grownBy w' none := by
  have HBX := box_ng x
  have N0 := NB.alloc w x
  have K0 := World.grownBy_alloc w (.cells x.cells.toArray 37) none
  have HR : Hid (∀ W, (w.alloc (.cells x.cells.toArray 37)).grownBy W none → RD W g s a ca v ∧ NB W w.heap.size x) := fun W K => ⟨(R.kept K0).kept K, N0.kept K⟩
  have HK0 : Hid (w.grownBy (w.alloc (.cells x.cells.toArray 37)) none) := K0
  have c0 := N0.kind
  have HZ : Hid ((Tryz.prog.info? 37).map (·.size) = some x.cells.toArray.size) := ng_size x
  have HCW : Hid (∀ (n : Nat) (W : World) (R : RD W g s a ca v) (hc : Cells W a s.b) (ho : x.of = 2 ∨ x.of = 3) (hn : n ≤ 8 * longM x.of), Calls Tryz.prog 137 #[.pointer (some ⟨g, 0, none⟩), .agg x.cells.toArray, .int .i64 (n : Int)] W fun e w' => e = .returned (.int .i64 (withinM s x (n : Int))) ∧ W.grownBy w' none) := fun n W R hc ho hn => mwithin_any s a ca g v x n W R hc hk hcap ho hn
  have HCP : Hid (∀ (W : World) (R : RD W g s a ca v) (hc : Cells W a s.b), Calls Tryz.prog 139 #[.pointer (some ⟨g, 0, none⟩), .agg x.cells.toArray] W fun e w' => e = .returned (.int .i64 (portsM s x)) ∧ W.grownBy w' none) := fun W R hc => ports_any s a ca g v x W R hc hk.len (Nat.le_trans (carrier_le hk _) hk.len)
  have HCS : Hid (∀ W, (w.alloc (.cells x.cells.toArray 37)).grownBy W none → Cells W a s.b) := fun W K => (hc.keptNone K0).keptNone K
  have HNX : Hid (s.v.next ≤ 255) := hk.next
  have HO : Hid (x.kind = 14 ∨ x.kind = 15 → x.of = 2 ∨ x.of = 3) := hx.ofs
  have HBT : Hid (x.kind = 15 → 0 ≤ x.bits ∧ x.bits ≤ 8 * (longM x.of : Int)) := hx.bits
  have h16 := hx.kind
  clear hc hk hcap hx R N0 K0
  obtain ⟨X, hX⟩ : ∃ X, x.cells.toArray = X := ⟨_, rfl⟩
  have HX : Hid (x.cells.toArray = X) := hX
  rw [hX] at HBX HR HK0 c0 HZ HCW HCP HCS ⊢
  clear hX
  have : x.kind = 10 ∨ x.kind = 11 ∨ x.kind = 12 ∨ x.kind = 13 ∨ x.kind = 14 ∨ x.kind = 15 ∨ x.kind = 16 := by omega
  clear h16
  rcases this with hk | hk | hk | hk | hk | hk | hk
  · have HE : Hid (truthM s x = jdg (decide (s.way = wayM x.side))) := by
      show _ = _
      unfold truthM
      repeat' split
      all_goals first | rfl | omega
    obtain ⟨E, hE⟩ : ∃ E, truthM s x = E := ⟨_, rfl⟩
    rw [hE] at HE ⊢
    clear hE
    rw [hk] at c0
    have HKD : Hid (x.kind = 10) := hk
    clear hk
    go_enter Tryz.func117, Tryz.ntmps117
    go_upto_region 1 with fail
    generalize w.alloc (.cells X 37) = w1 at *
    generalize w.heap.size = B at *
    clear HBX
    go_upto_region 3 with fail
    refine wp_region_held_drew (S := fun W => w1.grownBy W none) (by kernel_rfl) (grown_drewN w1 1 none) (fun hHeld => ?_)
    refine wpAnyH_take (i := 0) (v := .pointer (some ⟨g, 0, none⟩)) rfl (by kernel_rfl) (by kernel_rfl) (by kernel_rfl) (fun _ _ _ h => h) (Or.inl ⟨by rfl, fun W hW => ?_⟩) hHeld ?_
    · clear hW
      go_simp
    try simp only [Act.put, List.getElem_toArray, List.getElem_cons_zero, List.setIfInBounds_toArray, List.set_cons_zero, List.set_cons_succ]
    refine wpAnyH_take (i := 1) (v := .pointer (some ⟨g, 0, none⟩)) rfl (by kernel_rfl) (by kernel_rfl) (by kernel_rfl) (fun _ _ _ h => h) (Or.inl ⟨by rfl, fun W hW => ?_⟩) hHeld ?_
    · clear hW
      go_simp
    try simp only [Act.put, List.getElem_toArray, List.getElem_cons_zero, List.getElem_cons_succ, List.setIfInBounds_toArray, List.set_cons_zero, List.set_cons_succ]
    refine wpAnyH_take (i := 2) (v := .pointer (some ⟨g, 0, none⟩)) rfl (by kernel_rfl) (by kernel_rfl) (by kernel_rfl) (fun _ _ _ h => h) (Or.inl ⟨by rfl, fun W hW => ?_⟩) hHeld ?_
    · clear hW
      go_simp
    try simp only [Act.put, List.getElem_toArray, List.getElem_cons_zero, List.getElem_cons_succ, List.setIfInBounds_toArray, List.set_cons_zero, List.set_cons_succ]
    refine wpAnyH_take (i := 3) (v := tellA s a ca) rfl (by kernel_rfl) (by kernel_rfl) (by kernel_rfl) (fun _ _ _ h => h) (Or.inl ⟨by rfl, fun W hW => ?_⟩) hHeld ?_
    · have c := (HR.out W hW).1.tell
      clear hW
      go_simp
    try simp only [Act.put, List.getElem_toArray, List.getElem_cons_zero, List.getElem_cons_succ, List.setIfInBounds_toArray, List.set_cons_zero, List.set_cons_succ]
    refine wpAnyH_take (i := 4) (v := .pointer (some ⟨B, 6, none⟩)) rfl (by kernel_rfl) (by kernel_rfl) (by kernel_rfl) (fun _ _ _ h => h) (Or.inl ⟨by rfl, fun W hW => ?_⟩) hHeld ?_
    · clear hW
      go_simp
    try simp only [Act.put, List.getElem_toArray, List.getElem_cons_zero, List.getElem_cons_succ, List.setIfInBounds_toArray, List.set_cons_zero, List.set_cons_succ]
    refine wpAnyH_take (i := 5) (v := .int .i64 x.side) rfl (by kernel_rfl) (by kernel_rfl) (by kernel_rfl) (fun _ _ _ h => h) (Or.inl ⟨by rfl, fun W hW => ?_⟩) hHeld ?_
    · have c := (HR.out W hW).2.side
      clear hW
      go_simp
    try simp only [Act.put, List.getElem_toArray, List.getElem_cons_zero, List.getElem_cons_succ, List.setIfInBounds_toArray, List.set_cons_zero, List.set_cons_succ]
    refine wpAnyH_take (i := 7) (v := tellA s a ca) rfl (by kernel_rfl) (by kernel_rfl) (by kernel_rfl) (fun _ _ _ h => h) (Or.inl ⟨by rfl, fun W hW => ?_⟩) hHeld ?_
    · clear hW
      go_simp
    try simp only [Act.put, List.getElem_toArray, List.getElem_cons_zero, List.getElem_cons_succ, List.setIfInBounds_toArray, List.set_cons_zero, List.set_cons_succ]
    refine wpAnyH_take (i := 8) (v := tellA s a ca) rfl (by kernel_rfl) (by kernel_rfl) (by kernel_rfl) (fun _ _ _ h => h) (Or.inl ⟨by rfl, fun W hW => ?_⟩) hHeld ?_
    · clear hW
      go_simp
    try simp only [Act.put, List.getElem_toArray, List.getElem_cons_zero, List.getElem_cons_succ, List.setIfInBounds_toArray, List.set_cons_zero, List.set_cons_succ]
    refine wpAnyH_ready (rs := [6]) (by kernel_rfl) (by simp) (AllReadyH.cons rfl (fun K hK => ?_) AllReadyH.nil)
    go_simp
    refine (wayOf_any _ _).mono ?_
    rintro e w2 ⟨rfl, K2⟩
    go_wp2_with fail
    refine hK.out _ _ (K2 ▸ hHeld) (fun hHeld => ?_)
    clear hK K
    try simp only [Act.put, List.getElem_toArray, List.getElem_cons_zero, List.getElem_cons_succ, List.setIfInBounds_toArray, List.set_cons_zero, List.set_cons_succ]
    refine wpAnyH_ready (rs := [9]) (by kernel_rfl) (by simp) (AllReadyH.cons rfl (fun K hK => ?_) AllReadyH.nil)
    go_simp
    refine (vgoes_any s a ca _ _).mono ?_
    rintro e w3 ⟨rfl, K3⟩
    go_wp2_with fail
    refine hK.out _ _ (grown_trans hHeld K3) (fun hHeld => ?_)
    clear hK K
    try simp only [Act.put, List.getElem_toArray, List.getElem_cons_zero, List.getElem_cons_succ, List.setIfInBounds_toArray, List.set_cons_zero, List.set_cons_succ]
    refine wpAnyH_ready (rs := [10]) (by kernel_rfl) (by simp) (AllReadyH.cons rfl (fun K hK => ?_) AllReadyH.nil)
    go_simp
    refine (judged_any _ _).mono ?_
    rintro e w4 ⟨rfl, K4⟩
    go_wp2_with fail
    refine hK.out _ _ (K4 ▸ hHeld) (fun hHeld => ?_)
    clear hK K
    try simp only [Act.put, List.getElem_toArray, List.getElem_cons_zero, List.getElem_cons_succ, List.setIfInBounds_toArray, List.set_cons_zero, List.set_cons_succ]
    refine wpAnyH_take (i := 11) (v := .int .i64 (jdg (decide (s.way = wayM x.side)))) rfl (by kernel_rfl) (by kernel_rfl) (by kernel_rfl) (fun _ _ _ h => h) (Or.inl ⟨by rfl, fun W hW => ?_⟩) hHeld ?_
    · clear hW
      go_simp
    try simp only [Act.put, List.getElem_toArray, List.getElem_cons_zero, List.getElem_cons_succ, List.setIfInBounds_toArray, List.set_cons_zero, List.set_cons_succ]
    refine wpAnyH_done (by kernel_rfl) ?_ _

    have G := grown_trans HK0.out hHeld
    clear hHeld
    go_wp2
    go_ret
    exact ⟨ret_int HE.out.symm, G⟩
  · have HE : Hid (truthM s x = jdg (wordM s.v x.of)) := by
      show _ = _
      unfold truthM
      repeat' split
      all_goals first | rfl | omega
    obtain ⟨E, hE⟩ : ∃ E, truthM s x = E := ⟨_, rfl⟩
    rw [hE] at HE ⊢
    clear hE
    rw [hk] at c0
    have HKD : Hid (x.kind = 11) := hk
    clear hk
    go_enter Tryz.func117, Tryz.ntmps117
    go_upto_region 1 with fail
    generalize w.alloc (.cells X 37) = w1 at *
    generalize w.heap.size = B at *
    clear HBX
    go_upto_region 5 with fail
    refine wp_region_held_drew (S := fun W => w1.grownBy W none) (by kernel_rfl) (grown_drewN w1 1 none) (fun hHeld => ?_)
    refine wpAnyH_take (i := 0) (v := .pointer (some ⟨g, 0, none⟩)) rfl (by kernel_rfl) (by kernel_rfl) (by kernel_rfl) (fun _ _ _ h => h) (Or.inl ⟨by rfl, fun W hW => ?_⟩) hHeld ?_
    · clear hW
      go_simp
    try simp only [Act.put, List.getElem_toArray, List.getElem_cons_zero, List.setIfInBounds_toArray, List.set_cons_zero, List.set_cons_succ]
    refine wpAnyH_take (i := 1) (v := .pointer (some ⟨g, 0, none⟩)) rfl (by kernel_rfl) (by kernel_rfl) (by kernel_rfl) (fun _ _ _ h => h) (Or.inl ⟨by rfl, fun W hW => ?_⟩) hHeld ?_
    · clear hW
      go_simp
    try simp only [Act.put, List.getElem_toArray, List.getElem_cons_zero, List.getElem_cons_succ, List.setIfInBounds_toArray, List.set_cons_zero, List.set_cons_succ]
    refine wpAnyH_take (i := 2) (v := .pointer (some ⟨g, 0, none⟩)) rfl (by kernel_rfl) (by kernel_rfl) (by kernel_rfl) (fun _ _ _ h => h) (Or.inl ⟨by rfl, fun W hW => ?_⟩) hHeld ?_
    · clear hW
      go_simp
    try simp only [Act.put, List.getElem_toArray, List.getElem_cons_zero, List.getElem_cons_succ, List.setIfInBounds_toArray, List.set_cons_zero, List.set_cons_succ]
    refine wpAnyH_take (i := 3) (v := tellA s a ca) rfl (by kernel_rfl) (by kernel_rfl) (by kernel_rfl) (fun _ _ _ h => h) (Or.inl ⟨by rfl, fun W hW => ?_⟩) hHeld ?_
    · have c := (HR.out W hW).1.tell
      clear hW
      go_simp
    try simp only [Act.put, List.getElem_toArray, List.getElem_cons_zero, List.getElem_cons_succ, List.setIfInBounds_toArray, List.set_cons_zero, List.set_cons_succ]
    refine wpAnyH_take (i := 4) (v := .pointer (some ⟨B, 5, none⟩)) rfl (by kernel_rfl) (by kernel_rfl) (by kernel_rfl) (fun _ _ _ h => h) (Or.inl ⟨by rfl, fun W hW => ?_⟩) hHeld ?_
    · clear hW
      go_simp
    try simp only [Act.put, List.getElem_toArray, List.getElem_cons_zero, List.getElem_cons_succ, List.setIfInBounds_toArray, List.set_cons_zero, List.set_cons_succ]
    refine wpAnyH_take (i := 5) (v := .int .i64 x.of) rfl (by kernel_rfl) (by kernel_rfl) (by kernel_rfl) (fun _ _ _ h => h) (Or.inl ⟨by rfl, fun W hW => ?_⟩) hHeld ?_
    · have c := (HR.out W hW).2.of
      clear hW
      go_simp
    try simp only [Act.put, List.getElem_toArray, List.getElem_cons_zero, List.getElem_cons_succ, List.setIfInBounds_toArray, List.set_cons_zero, List.set_cons_succ]
    refine wpAnyH_ready (rs := [6]) (by kernel_rfl) (by simp) (AllReadyH.cons rfl (fun K hK => ?_) AllReadyH.nil)
    go_simp
    refine (vis_any s a ca _ _).mono ?_
    rintro e w3 ⟨rfl, K3⟩
    go_wp2_with fail
    refine hK.out _ _ (grown_trans hHeld K3) (fun hHeld => ?_)
    clear hK K
    try simp only [Act.put, List.getElem_toArray, List.getElem_cons_zero, List.getElem_cons_succ, List.setIfInBounds_toArray, List.set_cons_zero, List.set_cons_succ]
    refine wpAnyH_ready (rs := [7]) (by kernel_rfl) (by simp) (AllReadyH.cons rfl (fun K hK => ?_) AllReadyH.nil)
    go_simp
    refine (judged_any _ _).mono ?_
    rintro e w4 ⟨rfl, K4⟩
    go_wp2_with fail
    refine hK.out _ _ (K4 ▸ hHeld) (fun hHeld => ?_)
    clear hK K
    try simp only [Act.put, List.getElem_toArray, List.getElem_cons_zero, List.getElem_cons_succ, List.setIfInBounds_toArray, List.set_cons_zero, List.set_cons_succ]
    refine wpAnyH_take (i := 8) (v := .int .i64 (jdg (wordM s.v x.of))) rfl (by kernel_rfl) (by kernel_rfl) (by kernel_rfl) (fun _ _ _ h => h) (Or.inl ⟨by rfl, fun W hW => ?_⟩) hHeld ?_
    · clear hW
      go_simp
    try simp only [Act.put, List.getElem_toArray, List.getElem_cons_zero, List.getElem_cons_succ, List.setIfInBounds_toArray, List.set_cons_zero, List.set_cons_succ]
    refine wpAnyH_done (by kernel_rfl) ?_ _

    have G := grown_trans HK0.out hHeld
    clear hHeld
    go_wp2
    go_ret
    exact ⟨ret_int HE.out.symm, G⟩
  · have HE : Hid (truthM s x = jdg (decide (s.v.proto = x.n))) := by
      show _ = _
      unfold truthM
      repeat' split
      all_goals first | rfl | omega
    obtain ⟨E, hE⟩ : ∃ E, truthM s x = E := ⟨_, rfl⟩
    rw [hE] at HE ⊢
    clear hE
    rw [hk] at c0
    have HKD : Hid (x.kind = 12) := hk
    clear hk
    go_enter Tryz.func117, Tryz.ntmps117
    go_upto_region 1 with fail
    generalize w.alloc (.cells X 37) = w1 at *
    generalize w.heap.size = B at *
    clear HBX
    go_upto_region 7 with fail
    refine wp_region_held_drew (S := fun W => w1.grownBy W none) (by kernel_rfl) (grown_drewN w1 1 none) (fun hHeld => ?_)
    refine wpAnyH_take (i := 0) (v := .pointer (some ⟨g, 0, none⟩)) rfl (by kernel_rfl) (by kernel_rfl) (by kernel_rfl) (fun _ _ _ h => h) (Or.inl ⟨by rfl, fun W hW => ?_⟩) hHeld ?_
    · clear hW
      go_simp
    try simp only [Act.put, List.getElem_toArray, List.getElem_cons_zero, List.setIfInBounds_toArray, List.set_cons_zero, List.set_cons_succ]
    refine wpAnyH_take (i := 1) (v := .pointer (some ⟨g, 0, none⟩)) rfl (by kernel_rfl) (by kernel_rfl) (by kernel_rfl) (fun _ _ _ h => h) (Or.inl ⟨by rfl, fun W hW => ?_⟩) hHeld ?_
    · clear hW
      go_simp
    try simp only [Act.put, List.getElem_toArray, List.getElem_cons_zero, List.getElem_cons_succ, List.setIfInBounds_toArray, List.set_cons_zero, List.set_cons_succ]
    refine wpAnyH_take (i := 2) (v := .pointer (some ⟨g, 0, none⟩)) rfl (by kernel_rfl) (by kernel_rfl) (by kernel_rfl) (fun _ _ _ h => h) (Or.inl ⟨by rfl, fun W hW => ?_⟩) hHeld ?_
    · clear hW
      go_simp
    try simp only [Act.put, List.getElem_toArray, List.getElem_cons_zero, List.getElem_cons_succ, List.setIfInBounds_toArray, List.set_cons_zero, List.set_cons_succ]
    refine wpAnyH_take (i := 3) (v := tellA s a ca) rfl (by kernel_rfl) (by kernel_rfl) (by kernel_rfl) (fun _ _ _ h => h) (Or.inl ⟨by rfl, fun W hW => ?_⟩) hHeld ?_
    · have c := (HR.out W hW).1.tell
      clear hW
      go_simp
    try simp only [Act.put, List.getElem_toArray, List.getElem_cons_zero, List.getElem_cons_succ, List.setIfInBounds_toArray, List.set_cons_zero, List.set_cons_succ]
    refine wpAnyH_take (i := 4) (v := .pointer (some ⟨B, 2, none⟩)) rfl (by kernel_rfl) (by kernel_rfl) (by kernel_rfl) (fun _ _ _ h => h) (Or.inl ⟨by rfl, fun W hW => ?_⟩) hHeld ?_
    · clear hW
      go_simp
    try simp only [Act.put, List.getElem_toArray, List.getElem_cons_zero, List.getElem_cons_succ, List.setIfInBounds_toArray, List.set_cons_zero, List.set_cons_succ]
    refine wpAnyH_take (i := 5) (v := .int .u32 (x.n : Int)) rfl (by kernel_rfl) (by kernel_rfl) (by kernel_rfl) (fun _ _ _ h => h) (Or.inl ⟨by rfl, fun W hW => ?_⟩) hHeld ?_
    · have c := (HR.out W hW).2.n
      clear hW
      go_simp
    try simp only [Act.put, List.getElem_toArray, List.getElem_cons_zero, List.getElem_cons_succ, List.setIfInBounds_toArray, List.set_cons_zero, List.set_cons_succ]
    refine wpAnyH_ready (rs := [6]) (by kernel_rfl) (by simp) (AllReadyH.cons rfl (fun K hK => ?_) AllReadyH.nil)
    go_simp
    refine (vspeaks_any s a ca _ _).mono ?_
    rintro e w3 ⟨rfl, K3⟩
    go_wp2_with fail
    refine hK.out _ _ (grown_trans hHeld K3) (fun hHeld => ?_)
    clear hK K
    try simp only [Act.put, List.getElem_toArray, List.getElem_cons_zero, List.getElem_cons_succ, List.setIfInBounds_toArray, List.set_cons_zero, List.set_cons_succ]
    refine wpAnyH_ready (rs := [7]) (by kernel_rfl) (by simp) (AllReadyH.cons rfl (fun K hK => ?_) AllReadyH.nil)
    go_simp
    refine (judged_any _ _).mono ?_
    rintro e w4 ⟨rfl, K4⟩
    go_wp2_with fail
    refine hK.out _ _ (K4 ▸ hHeld) (fun hHeld => ?_)
    clear hK K
    try simp only [Act.put, List.getElem_toArray, List.getElem_cons_zero, List.getElem_cons_succ, List.setIfInBounds_toArray, List.set_cons_zero, List.set_cons_succ]
    refine wpAnyH_take (i := 8) (v := .int .i64 (jdg (decide (s.v.proto = x.n)))) rfl (by kernel_rfl) (by kernel_rfl) (by kernel_rfl) (fun _ _ _ h => h) (Or.inl ⟨by rfl, fun W hW => ?_⟩) hHeld ?_
    · clear hW
      go_simp
    try simp only [Act.put, List.getElem_toArray, List.getElem_cons_zero, List.getElem_cons_succ, List.setIfInBounds_toArray, List.set_cons_zero, List.set_cons_succ]
    refine wpAnyH_done (by kernel_rfl) ?_ _

    have G := grown_trans HK0.out hHeld
    clear hHeld
    go_wp2
    go_ret
    exact ⟨ret_int HE.out.symm, G⟩
  · have HE : Hid (truthM s x = jdg (wordM s.v x.of && decide (s.v.next = x.n))) := by
      show _ = _
      unfold truthM
      repeat' split
      all_goals first | rfl | omega
    obtain ⟨E, hE⟩ : ∃ E, truthM s x = E := ⟨_, rfl⟩
    rw [hE] at HE ⊢
    clear hE
    rw [hk] at c0
    have HKD : Hid (x.kind = 13) := hk
    clear hk
    go_enter Tryz.func117, Tryz.ntmps117
    go_upto_region 1 with fail
    generalize w.alloc (.cells X 37) = w1 at *
    generalize w.heap.size = B at *
    clear HBX
    go_upto_region 9 with fail
    refine wp_region_held_drew (S := fun W => w1.grownBy W none) (by kernel_rfl) (grown_drewN w1 1 none) (fun hHeld => ?_)
    refine wpAnyH_take (i := 0) (v := .pointer (some ⟨g, 0, none⟩)) rfl (by kernel_rfl) (by kernel_rfl) (by kernel_rfl) (fun _ _ _ h => h) (Or.inl ⟨by rfl, fun W hW => ?_⟩) hHeld ?_
    · clear hW
      go_simp
    try simp only [Act.put, List.getElem_toArray, List.getElem_cons_zero, List.setIfInBounds_toArray, List.set_cons_zero, List.set_cons_succ]
    refine wpAnyH_take (i := 1) (v := .pointer (some ⟨g, 0, none⟩)) rfl (by kernel_rfl) (by kernel_rfl) (by kernel_rfl) (fun _ _ _ h => h) (Or.inl ⟨by rfl, fun W hW => ?_⟩) hHeld ?_
    · clear hW
      go_simp
    try simp only [Act.put, List.getElem_toArray, List.getElem_cons_zero, List.getElem_cons_succ, List.setIfInBounds_toArray, List.set_cons_zero, List.set_cons_succ]
    refine wpAnyH_take (i := 2) (v := .pointer (some ⟨g, 0, none⟩)) rfl (by kernel_rfl) (by kernel_rfl) (by kernel_rfl) (fun _ _ _ h => h) (Or.inl ⟨by rfl, fun W hW => ?_⟩) hHeld ?_
    · clear hW
      go_simp
    try simp only [Act.put, List.getElem_toArray, List.getElem_cons_zero, List.getElem_cons_succ, List.setIfInBounds_toArray, List.set_cons_zero, List.set_cons_succ]
    refine wpAnyH_take (i := 3) (v := tellA s a ca) rfl (by kernel_rfl) (by kernel_rfl) (by kernel_rfl) (fun _ _ _ h => h) (Or.inl ⟨by rfl, fun W hW => ?_⟩) hHeld ?_
    · have c := (HR.out W hW).1.tell
      clear hW
      go_simp
    try simp only [Act.put, List.getElem_toArray, List.getElem_cons_zero, List.getElem_cons_succ, List.setIfInBounds_toArray, List.set_cons_zero, List.set_cons_succ]
    refine wpAnyH_take (i := 4) (v := .pointer (some ⟨B, 5, none⟩)) rfl (by kernel_rfl) (by kernel_rfl) (by kernel_rfl) (fun _ _ _ h => h) (Or.inl ⟨by rfl, fun W hW => ?_⟩) hHeld ?_
    · clear hW
      go_simp
    try simp only [Act.put, List.getElem_toArray, List.getElem_cons_zero, List.getElem_cons_succ, List.setIfInBounds_toArray, List.set_cons_zero, List.set_cons_succ]
    refine wpAnyH_take (i := 5) (v := .int .i64 x.of) rfl (by kernel_rfl) (by kernel_rfl) (by kernel_rfl) (fun _ _ _ h => h) (Or.inl ⟨by rfl, fun W hW => ?_⟩) hHeld ?_
    · have c := (HR.out W hW).2.of
      clear hW
      go_simp
    try simp only [Act.put, List.getElem_toArray, List.getElem_cons_zero, List.getElem_cons_succ, List.setIfInBounds_toArray, List.set_cons_zero, List.set_cons_succ]
    refine wpAnyH_take (i := 6) (v := .pointer (some ⟨B, 2, none⟩)) rfl (by kernel_rfl) (by kernel_rfl) (by kernel_rfl) (fun _ _ _ h => h) (Or.inl ⟨by rfl, fun W hW => ?_⟩) hHeld ?_
    · clear hW
      go_simp
    try simp only [Act.put, List.getElem_toArray, List.getElem_cons_zero, List.getElem_cons_succ, List.setIfInBounds_toArray, List.set_cons_zero, List.set_cons_succ]
    refine wpAnyH_take (i := 7) (v := .int .u32 (x.n : Int)) rfl (by kernel_rfl) (by kernel_rfl) (by kernel_rfl) (fun _ _ _ h => h) (Or.inl ⟨by rfl, fun W hW => ?_⟩) hHeld ?_
    · have c := (HR.out W hW).2.n
      clear hW
      go_simp
    try simp only [Act.put, List.getElem_toArray, List.getElem_cons_zero, List.getElem_cons_succ, List.setIfInBounds_toArray, List.set_cons_zero, List.set_cons_succ]
    refine wpAnyH_ready (rs := [8]) (by kernel_rfl) (by simp) (AllReadyH.cons rfl (fun K hK => ?_) AllReadyH.nil)
    go_simp
    refine (vcarries_any s a ca _ _ HNX.out _).mono ?_
    rintro e w3 ⟨rfl, K3⟩
    go_wp2_with fail
    refine hK.out _ _ (grown_trans hHeld K3) (fun hHeld => ?_)
    clear hK K
    try simp only [Act.put, List.getElem_toArray, List.getElem_cons_zero, List.getElem_cons_succ, List.setIfInBounds_toArray, List.set_cons_zero, List.set_cons_succ]
    refine wpAnyH_ready (rs := [9]) (by kernel_rfl) (by simp) (AllReadyH.cons rfl (fun K hK => ?_) AllReadyH.nil)
    go_simp
    refine (judged_any _ _).mono ?_
    rintro e w4 ⟨rfl, K4⟩
    go_wp2_with fail
    refine hK.out _ _ (K4 ▸ hHeld) (fun hHeld => ?_)
    clear hK K
    try simp only [Act.put, List.getElem_toArray, List.getElem_cons_zero, List.getElem_cons_succ, List.setIfInBounds_toArray, List.set_cons_zero, List.set_cons_succ]
    refine wpAnyH_take (i := 10) (v := .int .i64 (jdg (wordM s.v x.of && decide (s.v.next = x.n)))) rfl (by kernel_rfl) (by kernel_rfl) (by kernel_rfl) (fun _ _ _ h => h) (Or.inl ⟨by rfl, fun W hW => ?_⟩) hHeld ?_
    · clear hW
      go_simp
    try simp only [Act.put, List.getElem_toArray, List.getElem_cons_zero, List.getElem_cons_succ, List.setIfInBounds_toArray, List.set_cons_zero, List.set_cons_succ]
    refine wpAnyH_done (by kernel_rfl) ?_ _

    have G := grown_trans HK0.out hHeld
    clear hHeld
    go_wp2
    go_ret
    exact ⟨ret_int HE.out.symm, G⟩
  · have HE : Hid (truthM s x = withinM s x (8 * (longM x.of : Int))) := by
      show _ = _
      unfold truthM
      repeat' split
      all_goals first | rfl | omega
    obtain ⟨E, hE⟩ : ∃ E, truthM s x = E := ⟨_, rfl⟩
    rw [hE] at HE ⊢
    clear hE
    rw [hk] at c0
    have HKD : Hid (x.kind = 14) := hk
    clear hk
    go_enter Tryz.func117, Tryz.ntmps117
    go_upto_region 1 with fail
    generalize w.alloc (.cells X 37) = w1 at *
    generalize w.heap.size = B at *
    clear HBX
    go_upto_region 11 with fail
    have HFE := field_ends x.of
    have h8 : IntKind.i64.wrap (8 * (longM x.of : Int)) = ((8 * longM x.of : Nat) : Int) := by
      have : longM x.of ≤ 16 := by unfold longM; split <;> omega
      rw [IntKind.wrap_i64]; omega
    refine wp_region_held_drew (S := fun W => w1.grownBy W none) (by kernel_rfl) (grown_drewN w1 1 none) (fun hHeld => ?_)
    refine wpAnyH_take (i := 0) (v := .pointer (some ⟨g, 0, none⟩)) rfl (by kernel_rfl) (by kernel_rfl) (by kernel_rfl) (fun _ _ _ h => h) (Or.inl ⟨by rfl, fun W hW => ?_⟩) hHeld ?_
    · clear hW
      go_simp
    try simp only [Act.put, List.getElem_toArray, List.getElem_cons_zero, List.setIfInBounds_toArray, List.set_cons_zero, List.set_cons_succ]
    refine wpAnyH_take (i := 1) (v := .agg (X)) rfl (by kernel_rfl) (by kernel_rfl) (by kernel_rfl) (fun _ _ _ h => h) (yieldsIf_load_row (by rfl) _ _ rfl B rfl 37 (X) _ (fun W hW => HX.out ▸ (HR.out W hW).2.vat) Tryz.underlying37 rfl HZ.out) hHeld ?_
    try simp only [Act.put, List.getElem_toArray, List.getElem_cons_zero, List.getElem_cons_succ, List.setIfInBounds_toArray, List.set_cons_zero, List.set_cons_succ]
    refine wpAnyH_take (i := 2) (v := .pointer (some ⟨B, 5, none⟩)) rfl (by kernel_rfl) (by kernel_rfl) (by kernel_rfl) (fun _ _ _ h => h) (Or.inl ⟨by rfl, fun W hW => ?_⟩) hHeld ?_
    · clear hW
      go_simp
    try simp only [Act.put, List.getElem_toArray, List.getElem_cons_zero, List.getElem_cons_succ, List.setIfInBounds_toArray, List.set_cons_zero, List.set_cons_succ]
    refine wpAnyH_take (i := 3) (v := .int .i64 x.of) rfl (by kernel_rfl) (by kernel_rfl) (by kernel_rfl) (fun _ _ _ h => h) (Or.inl ⟨by rfl, fun W hW => ?_⟩) hHeld ?_
    · have c := (HR.out W hW).2.of
      clear hW
      go_simp
    try simp only [Act.put, List.getElem_toArray, List.getElem_cons_zero, List.getElem_cons_succ, List.setIfInBounds_toArray, List.set_cons_zero, List.set_cons_succ]
    refine wpAnyH_ready (rs := [4]) (by kernel_rfl) (by simp) (AllReadyH.cons rfl (fun K hK => ?_) AllReadyH.nil)
    go_simp
    refine (endsOf_any _ _).mono ?_
    rintro e w2 ⟨rfl, K2⟩
    go_wp2_with fail
    refine hK.out _ _ (grown_trans hHeld K2) (fun hHeld => ?_)
    clear hK K
    try simp only [Act.put, List.getElem_toArray, List.getElem_cons_zero, List.getElem_cons_succ, List.setIfInBounds_toArray, List.set_cons_zero, List.set_cons_succ]
    refine wpAnyH_take (i := 5) (v := .int .i64 (longM x.of : Int)) rfl (by kernel_rfl) (by kernel_rfl) (by kernel_rfl) (fun _ _ _ h => h) (Or.inl ⟨by rfl, fun W hW => ?_⟩) hHeld ?_
    · clear hW
      go_simp
    try simp only [Act.put, List.getElem_toArray, List.getElem_cons_zero, List.getElem_cons_succ, List.setIfInBounds_toArray, List.set_cons_zero, List.set_cons_succ]
    refine wpAnyH_take (i := 6) (v := .int .i64 ((8 * longM x.of : Nat) : Int)) rfl (by kernel_rfl) (by kernel_rfl) (by kernel_rfl) (fun _ _ _ h => h) (Or.inl ⟨by rfl, fun W hW => ?_⟩) hHeld ?_
    · clear hW
      go_simp
    try simp only [Act.put, List.getElem_toArray, List.getElem_cons_zero, List.getElem_cons_succ, List.setIfInBounds_toArray, List.set_cons_zero, List.set_cons_succ]
    refine wpAnyH_ready (rs := [7]) (by kernel_rfl) (by simp) (AllReadyH.cons rfl (fun K hK => ?_) AllReadyH.nil)
    go_simp
    refine (HCW.out (8 * longM x.of) _ (HR.out _ hHeld).1 (HCS.out _ hHeld) (HO.out (.inl HKD.out)) (Nat.le_refl _)).mono ?_
    rintro e w3 ⟨rfl, K3⟩
    go_wp2_with fail
    refine hK.out _ _ (grown_trans hHeld K3) (fun hHeld => ?_)
    clear hK K
    try simp only [Act.put, List.getElem_toArray, List.getElem_cons_zero, List.getElem_cons_succ, List.setIfInBounds_toArray, List.set_cons_zero, List.set_cons_succ]
    refine wpAnyH_take (i := 8) (v := .int .i64 (withinM s x ((8 * longM x.of : Nat) : Int))) rfl (by kernel_rfl) (by kernel_rfl) (by kernel_rfl) (fun _ _ _ h => h) (Or.inl ⟨by rfl, fun W hW => ?_⟩) hHeld ?_
    · clear hW
      go_simp
    try simp only [Act.put, List.getElem_toArray, List.getElem_cons_zero, List.getElem_cons_succ, List.setIfInBounds_toArray, List.set_cons_zero, List.set_cons_succ]
    refine wpAnyH_done (by kernel_rfl) ?_ _

    have G := grown_trans HK0.out hHeld
    have HE2 : Hid (E = withinM s x ((8 * longM x.of : Nat) : Int)) := by show E = _; rw [HE.out]; simp
    clear hHeld HE
    go_wp2
    go_ret
    exact ⟨ret_int HE2.out.symm, G⟩
  · have HE : Hid (truthM s x = withinM s x x.bits) := by
      show _ = _
      unfold truthM
      repeat' split
      all_goals first | rfl | omega
    obtain ⟨E, hE⟩ : ∃ E, truthM s x = E := ⟨_, rfl⟩
    rw [hE] at HE ⊢
    clear hE
    rw [hk] at c0
    have HKD : Hid (x.kind = 15) := hk
    clear hk
    go_enter Tryz.func117, Tryz.ntmps117
    go_upto_region 1 with fail
    generalize w.alloc (.cells X 37) = w1 at *
    generalize w.heap.size = B at *
    clear HBX
    go_upto_region 13 with fail
    have hb := HBT.out HKD.out
    obtain ⟨n, hn⟩ := Int.eq_ofNat_of_zero_le hb.1
    have c8 := (HR.out w1 (World.grownBy.refl _ _)).2.bits
    rw [hn] at c8 HE hb
    have CW := HCW.out n w1 (HR.out w1 (World.grownBy.refl _ _)).1 (HCS.out w1 (World.grownBy.refl _ _)) (HO.out (.inr HKD.out)) (by omega)
    have V1 : VAt w1 B 37 X := HX.out ▸ (HR.out w1 (World.grownBy.refl _ _)).2.vat
    clear hb hn HBT HO HCW HCP
    go_wp2_with (refine wpList_load_row rfl 37 (.tmp 3) rfl B rfl 37 X (0, 0) _ V1 Tryz.underlying37 rfl HZ.out ?_)
    refine CW.mono ?_
    rintro e w2 ⟨rfl, K2⟩
    have G := grown_trans HK0.out K2
    go_wp2
    go_ret
    exact ⟨ret_int HE.out.symm, G⟩
  · have HE : Hid (truthM s x = portsM s x) := by
      show _ = _
      unfold truthM
      repeat' split
      all_goals first | rfl | omega
    obtain ⟨E, hE⟩ : ∃ E, truthM s x = E := ⟨_, rfl⟩
    rw [hE] at HE ⊢
    clear hE
    rw [hk] at c0
    have HKD : Hid (x.kind = 16) := hk
    clear hk
    go_enter Tryz.func117, Tryz.ntmps117
    go_upto_region 1 with fail
    generalize w.alloc (.cells X 37) = w1 at *
    generalize w.heap.size = B at *
    clear HBX
    go_upto_region 14 with fail
    have CW := HCP.out w1 (HR.out w1 (World.grownBy.refl _ _)).1 (HCS.out w1 (World.grownBy.refl _ _))
    have V1 : VAt w1 B 37 X := HX.out ▸ (HR.out w1 (World.grownBy.refl _ _)).2.vat
    clear HBT HO HCW HCP
    go_wp2_with (refine wpList_load_row rfl 37 (.tmp 3) rfl B rfl 37 X (0, 0) _ V1 Tryz.underlying37 rfl HZ.out ?_)
    refine CW.mono ?_
    rintro e w2 ⟨rfl, K2⟩
    have G := grown_trans HK0.out K2
    go_wp2
    go_ret
    exact ⟨ret_int HE.out.symm, G⟩

end Go.Proofs.YtnojpepjloceoaaGreat
