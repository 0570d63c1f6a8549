/-
  Package forge as landed: ip, ip6, network.
-/
import Derived.Test.YtnojpepjloceoaaGreatForgeB
namespace Go.Proofs.YtnojpepjloceoaaGreat
open Go.RowKit
set_option maxRecDepth 100000

theorem be2_mod (n : Nat) : be2 (n % 4294967296) = be2 n := by
  simp only [be2, List.cons.injEq, and_true]
  constructor
  · apply UInt8.toNat_inj.1
    rw [u8_of, u8_of]
    omega
  · apply UInt8.toNat_inj.1
    rw [u8_of, u8_of]
    omega

/-- Seven parts joined. -/
theorem join_seven {W : World} {a1 a2 a3 a4 a5 a6 a7 : Option Addr} {k1 k2 k3 k4 k5 k6 k7 : Nat} {x1 x2 x3 x4 x5 x6 x7 : List UInt8} (t : TypeId) (C1 : Cells W a1 x1) (z1 : a1 = none → k1 = 0) (C2 : Cells W a2 x2) (z2 : a2 = none → k2 = 0) (C3 : Cells W a3 x3) (z3 : a3 = none → k3 = 0) (C4 : Cells W a4 x4) (z4 : a4 = none → k4 = 0) (C5 : Cells W a5 x5) (z5 : a5 = none → k5 = 0) (C6 : Cells W a6 x6) (z6 : a6 = none → k6 = 0) (C7 : Cells W a7 x7) (z7 : a7 = none → k7 = 0)
    (n1 n2 n3 n4 n5 n6 n7 : Nat) (e1 : x1.length = n1) (e2 : x2.length = n2) (e3 : x3.length = n3) (e4 : x4.length = n4) (e5 : x5.length = n5) (e6 : x6.length = n6) (e7 : x7.length = n7) (hm : n1 + n2 + n3 + n4 + n5 + n6 + n7 ≤ 1000) :
    Calls Tryz.prog 12 #[.slice (some ⟨W.heap.size, 0, none⟩) 7 7] (W.alloc (.cells #[.slice a1 n1 k1, .slice a2 n2 k2, .slice a3 n3 k3, .slice a4 n4 k4, .slice a5 n5 k5, .slice a6 n6 k6, .slice a7 n7 k7] t)) fun e w' => ∃ v, e = .returned v ∧ Owns w' W.heap.size v (x1 ++ (x2 ++ (x3 ++ (x4 ++ (x5 ++ (x6 ++ x7)))))) ∧ (W.alloc (.cells #[.slice a1 n1 k1, .slice a2 n2 k2, .slice a3 n3 k3, .slice a4 n4 k4, .slice a5 n5 k5, .slice a6 n6 k6, .slice a7 n7 k7] t)).grownBy w' none := by
  subst e1 e2 e3 e4 e5 e6 e7
  have e : joinS [⟨a1, k1, x1⟩, ⟨a2, k2, x2⟩, ⟨a3, k3, x3⟩, ⟨a4, k4, x4⟩, ⟨a5, k5, x5⟩, ⟨a6, k6, x6⟩, ⟨a7, k7, x7⟩] = x1 ++ (x2 ++ (x3 ++ (x4 ++ (x5 ++ (x6 ++ x7))))) := by simp [joinS]
  have k := join_lit [⟨a1, k1, x1⟩, ⟨a2, k2, x2⟩, ⟨a3, k3, x3⟩, ⟨a4, k4, x4⟩, ⟨a5, k5, x5⟩, ⟨a6, k6, x6⟩, ⟨a7, k7, x7⟩] 7 rfl t W (by simpa using ⟨⟨C1, z1⟩, ⟨C2, z2⟩, ⟨C3, z3⟩, ⟨C4, z4⟩, ⟨C5, z5⟩, ⟨C6, z6⟩, ⟨C7, z7⟩⟩) (by omega) (by rw [e]; simp only [List.length_append]; omega)
  rw [e] at k
  exact k
/-- Five parts joined. -/
theorem join_five {W : World} {a1 a2 a3 a4 a5 : Option Addr} {k1 k2 k3 k4 k5 : Nat} {x1 x2 x3 x4 x5 : List UInt8} (t : TypeId) (C1 : Cells W a1 x1) (z1 : a1 = none → k1 = 0) (C2 : Cells W a2 x2) (z2 : a2 = none → k2 = 0) (C3 : Cells W a3 x3) (z3 : a3 = none → k3 = 0) (C4 : Cells W a4 x4) (z4 : a4 = none → k4 = 0) (C5 : Cells W a5 x5) (z5 : a5 = none → k5 = 0)
    (n1 n2 n3 n4 n5 : Nat) (e1 : x1.length = n1) (e2 : x2.length = n2) (e3 : x3.length = n3) (e4 : x4.length = n4) (e5 : x5.length = n5) (hm : n1 + n2 + n3 + n4 + n5 ≤ 1000) :
    Calls Tryz.prog 12 #[.slice (some ⟨W.heap.size, 0, none⟩) 5 5] (W.alloc (.cells #[.slice a1 n1 k1, .slice a2 n2 k2, .slice a3 n3 k3, .slice a4 n4 k4, .slice a5 n5 k5] t)) fun e w' => ∃ v, e = .returned v ∧ Owns w' W.heap.size v (x1 ++ (x2 ++ (x3 ++ (x4 ++ x5)))) ∧ (W.alloc (.cells #[.slice a1 n1 k1, .slice a2 n2 k2, .slice a3 n3 k3, .slice a4 n4 k4, .slice a5 n5 k5] t)).grownBy w' none := by
  subst e1 e2 e3 e4 e5
  have e : joinS [⟨a1, k1, x1⟩, ⟨a2, k2, x2⟩, ⟨a3, k3, x3⟩, ⟨a4, k4, x4⟩, ⟨a5, k5, x5⟩] = x1 ++ (x2 ++ (x3 ++ (x4 ++ x5))) := by simp [joinS]
  have k := join_lit [⟨a1, k1, x1⟩, ⟨a2, k2, x2⟩, ⟨a3, k3, x3⟩, ⟨a4, k4, x4⟩, ⟨a5, k5, x5⟩] 5 rfl t W (by simpa using ⟨⟨C1, z1⟩, ⟨C2, z2⟩, ⟨C3, z3⟩, ⟨C4, z4⟩, ⟨C5, z5⟩⟩) (by omega) (by rw [e]; simp only [List.length_append]; omega)
  rw [e] at k
  exact k

def ip6V (s : Sp) : List UInt8 := [96, 0, 0, 0] ++ (be2 (loadV s).length ++ ([UInt8.ofNat s.next.toNat, 64] ++ (s.src ++ s.dst)))
def ip4V (s : Sp) : List UInt8 := [69, 0] ++ (be2 (20 + (loadV s).length) ++ (be4 0 ++ ([64, UInt8.ofNat s.next.toNat] ++ (be2 0 ++ (s.src.take 4 ++ s.dst.take 4)))))

theorem bs_call {w W W' : World} {C : Nat} {u : Value} (K : W.grownBy W' none) (h : W.cell? ⟨C, 7, none⟩ = some u ∧ w.grownBy W none) : W'.cell? ⟨C, 7, none⟩ = some u ∧ w.grownBy W' none := ⟨K.cell h.1 (by simp), grown_trans h.2 K⟩

set_option maxRecDepth 100000 in
set_option maxHeartbeats 4000000 in
theorem fip6_any (s : Sp) (a : Option Addr) (ca : Nat) (w : World) (ok : s.ok) (hn : s.data.length ≤ 140737488355328) (hx : 0 ≤ s.next ∧ s.next ≤ 255) : Calls Tryz.prog 44 #[.agg (spA s a ca)] w fun e w' => ∃ v, e = .returned v ∧ Owns w' w.heap.size v (ip6V s) ∧ w.grownBy w' none := by
  have S0 : SAt (w.alloc (.cells (spA s a ca) 28)) w.heap.size s a ca := ⟨VAt.alloc w _ _, ok⟩
  have G0 : w.grownBy (w.alloc (.cells (spA s a ca) 28)) none := World.grownBy_alloc _ _ _
  have HSS : Hid ((Tryz.prog.info? 28).map (·.size) = some (spA s a ca).size) := spA_size ok a ca
  have HOK : Hid s.ok := ok
  have HLL : (loadV s).length ≤ 140737488355332 := by have := pre_len s; rw [load_pre, List.length_append]; omega
  obtain ⟨nb, hnb⟩ : ∃ nb : UInt8, s.next = (nb.toNat : Int) := ⟨UInt8.ofNat s.next.toNat, by rw [u8_of]; omega⟩
  have hnx : UInt8.ofNat s.next.toNat = nb := by rw [hnb]; simp
  obtain ⟨m, hm⟩ : ∃ m, (loadV s).length = m := ⟨_, rfl⟩
  obtain ⟨R, hR⟩ : ∃ R, ip6V s = R := ⟨_, rfl⟩
  have HR : Hid (R = [96, 0, 0, 0] ++ (be2 m ++ ([nb, 64] ++ (s.src ++ s.dst)))) := by
    show R = _
    rw [← hR, ip6V, hm, hnx]
  have HB : Hid (∀ W : World, Calls Tryz.prog 49 #[.agg (spA s a ca)] W fun e w' => e = .returned (.int .i64 (m : Int)) ∧ W.grownBy w' none) := by
    intro W
    have k := fbehind_any s a ca W ok hn
    rw [hm] at k
    exact k
  have hwn : IntKind.u8.wrap (nb.toNat : Int) = (nb.toNat : Int) := by rw [IntKind.wrap_u8]; have := nb.toNat_lt; omega
  rw [hm] at HLL
  rw [hR]
  obtain ⟨q, hq⟩ : ∃ q, m % 4294967296 = q := ⟨_, rfl⟩
  have hqe : IntKind.u32.wrap (m : Int) = (q : Int) := by rw [IntKind.wrap_u32]; omega
  have HN : Hid (∀ W : World, Calls Tryz.prog 41 #[.int .i64 2, .int .u32 (q : Int)] W fun e w' => ∃ u, e = .returned u ∧ Owns w' W.heap.size u (be2 m) ∧ W.grownBy w' none) := by
    intro W
    have k := number2 q (by omega) W
    rw [← hq, be2_mod, hq] at k
    exact k
  clear hm hR ok hnx hq
  go_enter Tryz.func44, Tryz.ntmps44
  go_upto_region 1 with fail
  generalize w.alloc (.cells (spA s a ca) 28) = w1 at *
  obtain ⟨C, hC⟩ : ∃ C, w.heap.size = C := ⟨_, rfl⟩
  have HCC : Hid (w.heap.size = C) := hC
  rw [hC] at S0 ⊢
  clear hC
  have SK := S0.1
  go_wp2_with (refine wpList_load_row rfl 28 (.tmp 1) rfl C rfl 28 (spA s a ca) (0, 0) _ SK Tryz.underlying28 rfl HSS.out ?_)
  refine (HB.out _).mono ?_
  rintro e w2 ⟨rfl, K2⟩
  have S2 := S0.kept K2
  have G2 := grown_trans G0 K2
  clear SK S0 G0 K2
  go_wp2_with fail
  refine (HN.out _).mono ?_
  rintro e w3 ⟨u, rfl, O3, K3⟩
  obtain ⟨a3, k3, rfl, C3, z3⟩ := O3.cells
  have S3 := S2.kept K3
  have G3 := grown_trans G2 K3
  have c7 := S3.eight.2.2.2.2.2.2.2
  rw [hnb] at c7
  have HS3 : Hid (SAt w3 C s a ca) := S3
  have HC3 : Hid (Cells w3 a3 (be2 m)) := C3
  have hbl : (be2 m).length = 2 := rfl
  rw [hbl]
  clear O3 K3 S2 G2 S3 C3
  go_upto_region 2 with fail
  have HJ : Hid (∀ (W : World) (adA adB : Addr), Cells W (some adA) [96, 0, 0, 0] → Cells W (some adB) [nb, 64] → w3.grownBy W none →
      Calls Tryz.prog 12 #[.slice (some ⟨W.heap.size, 0, none⟩) 5 5] (W.alloc (.cells #[.slice (some adA) 4 4, .slice a3 2 k3, .slice (some adB) 2 2, .slice (some ⟨C, 8, none⟩) 16 16, .slice (some ⟨C, 24, none⟩) 16 16] 26)) fun e w' => ∃ v, e = .returned v ∧ Owns w' w3.heap.size v R ∧ (W.alloc (.cells #[.slice (some adA) 4 4, .slice a3 2 k3, .slice (some adB) 2 2, .slice (some ⟨C, 8, none⟩) 16 16, .slice (some ⟨C, 24, none⟩) 16 16] 26)).grownBy w' none) := by
    intro W adA adB CA CB KW
    have CS := frange_cells (HS3.out.kept KW).srcR 16
    have CD := frange_cells (HS3.out.kept KW).dstR 16
    rw [List.take_of_length_le (by have := HOK.out.src; omega)] at CS
    rw [List.take_of_length_le (by have := HOK.out.dst; omega)] at CD
    refine (join_five 26 CA (by simp) (HC3.out.keptNone KW) z3 CB (by simp) CS (by simp) CD (by simp) 4 2 2 16 16 rfl rfl rfl HOK.out.src HOK.out.dst (by omega)).mono ?_
    rintro e w' ⟨v, rfl, O, K⟩
    rw [← HR.out] at O
    exact ⟨v, rfl, owns_mono O KW.size, K⟩
  refine wp_region_held_drew (S := fun W => W.cell? ⟨C, 7, none⟩ = some (.int .i64 (nb.toNat : Int)) ∧ w3.grownBy W none) (by kernel_rfl) (bs_call (grown_drewN w3 1 none) ⟨c7, World.grownBy.refl _ _⟩) (fun hHeld => ?_)
  clear c7
  refine wpAnyH_take (i := 1) (v := .slice a3 2 k3) rfl (by kernel_rfl) (by kernel_rfl) (by kernel_rfl) (fun _ _ _ h => h) (Or.inl ⟨by rfl, fun W hW => ?_⟩) hHeld ?_
  · clear hW
    go_simp
  try simp only [Act.put, List.getElem_toArray, List.getElem_cons_zero, List.getElem_cons_succ, List.setIfInBounds_toArray, List.set_cons_zero, List.set_cons_succ]
  refine wpAnyH_take (i := 2) (v := .pointer (some ⟨C, 7, none⟩)) rfl (by kernel_rfl) (by kernel_rfl) (by kernel_rfl) (fun _ _ _ h => h) (Or.inl ⟨by rfl, fun W hW => ?_⟩) hHeld ?_
  · clear hW
    go_simp
  try simp only [Act.put, List.getElem_toArray, List.getElem_cons_zero, List.getElem_cons_succ, List.setIfInBounds_toArray, List.set_cons_zero, List.set_cons_succ]
  refine wpAnyH_take (i := 3) (v := .int .i64 (nb.toNat : Int)) rfl (by kernel_rfl) (by kernel_rfl) (by kernel_rfl) (fun _ _ _ h => h) (Or.inl ⟨by rfl, fun W hW => ?_⟩) hHeld ?_
  · have c := hW.1
    clear hW
    go_simp
  try simp only [Act.put, List.getElem_toArray, List.getElem_cons_zero, List.getElem_cons_succ, List.setIfInBounds_toArray, List.set_cons_zero, List.set_cons_succ]
  refine wpAnyH_take (i := 4) (v := .int .u8 (nb.toNat : Int)) rfl (by kernel_rfl) (by kernel_rfl) (by kernel_rfl) (fun _ _ _ h => h) (Or.inl ⟨by rfl, fun W hW => ?_⟩) hHeld ?_
  · clear hW
    go_simp
  try simp only [Act.put, List.getElem_toArray, List.getElem_cons_zero, List.getElem_cons_succ, List.setIfInBounds_toArray, List.set_cons_zero, List.set_cons_succ]
  refine wpAnyH_take (i := 6) (v := .pointer (some ⟨C, 8, none⟩)) rfl (by kernel_rfl) (by kernel_rfl) (by kernel_rfl) (fun _ _ _ h => h) (Or.inl ⟨by rfl, fun W hW => ?_⟩) hHeld ?_
  · clear hW
    go_simp
  try simp only [Act.put, List.getElem_toArray, List.getElem_cons_zero, List.getElem_cons_succ, List.setIfInBounds_toArray, List.set_cons_zero, List.set_cons_succ]
  refine wpAnyH_take (i := 7) (v := .slice (some ⟨C, 8, none⟩) 16 16) rfl (by kernel_rfl) (by kernel_rfl) (by kernel_rfl) (fun _ _ _ h => h) (Or.inl ⟨by rfl, fun W hW => ?_⟩) hHeld ?_
  · clear hW
    go_simp
  try simp only [Act.put, List.getElem_toArray, List.getElem_cons_zero, List.getElem_cons_succ, List.setIfInBounds_toArray, List.set_cons_zero, List.set_cons_succ]
  refine wpAnyH_take (i := 8) (v := .pointer (some ⟨C, 24, none⟩)) rfl (by kernel_rfl) (by kernel_rfl) (by kernel_rfl) (fun _ _ _ h => h) (Or.inl ⟨by rfl, fun W hW => ?_⟩) hHeld ?_
  · clear hW
    go_simp
  try simp only [Act.put, List.getElem_toArray, List.getElem_cons_zero, List.getElem_cons_succ, List.setIfInBounds_toArray, List.set_cons_zero, List.set_cons_succ]
  refine wpAnyH_take (i := 9) (v := .slice (some ⟨C, 24, none⟩) 16 16) rfl (by kernel_rfl) (by kernel_rfl) (by kernel_rfl) (fun _ _ _ h => h) (Or.inl ⟨by rfl, fun W hW => ?_⟩) hHeld ?_
  · clear hW
    go_simp
  try simp only [Act.put, List.getElem_toArray, List.getElem_cons_zero, List.getElem_cons_succ, List.setIfInBounds_toArray, List.set_cons_zero, List.set_cons_succ]
  refine wpAnyH_ready (rs := [0, 5]) (by kernel_rfl) (by simp) (AllReadyH.cons rfl (fun K hK => ?_) (AllReadyH.cons rfl (fun K hK => ?_) AllReadyH.nil))
  · refine step_build (by rfl) 26 4 _ (by rfl) _ (by kernel_rfl) [96, 0, 0, 0] (bld4 96 0 0 0) ?_
    intro adA v1 CA K1
    refine hK.out _ _ (bs_call K1 hHeld) (fun hHeld => ?_)
    clear hK K
    try simp only [Act.put, List.getElem_toArray, List.getElem_cons_zero, List.setIfInBounds_toArray, List.set_cons_zero, List.set_cons_succ]
    refine wpAnyH_ready (rs := [5]) (by kernel_rfl) (by simp) (AllReadyH.cons rfl (fun K hK => ?_) AllReadyH.nil)
    · refine step_build (by rfl) 26 2 _ (by rfl) _ (by kernel_rfl) [nb, 64] (bld2 nb 64) ?_
      intro adB v2 CB K2
      have CA' := CA.keptNone K2
      clear CA
      have CA := CA'
      clear CA'
      refine hK.out _ _ (bs_call K2 hHeld) (fun hHeld => ?_)
      clear hK K
      try simp only [Act.put, List.getElem_toArray, List.getElem_cons_zero, List.getElem_cons_succ, List.setIfInBounds_toArray, List.set_cons_zero, List.set_cons_succ]
      have hH := hHeld.2
      refine wpAnyH_ready (rs := [10]) (by kernel_rfl) (by simp) (AllReadyH.cons rfl (fun K hK => ?_) AllReadyH.nil)
      go_simp
      refine hK.out _ _ (bs_call (World.grownBy_alloc _ _ _) hHeld) (fun hHeld => ?_)
      clear hK K
      try simp only [Act.put, List.getElem_toArray, List.getElem_cons_zero, List.getElem_cons_succ, List.setIfInBounds_toArray, List.set_cons_zero, List.set_cons_succ]
      refine wpAnyH_ready (rs := [11]) (by kernel_rfl) (by simp) (AllReadyH.cons rfl (fun K hK => ?_) AllReadyH.nil)
      go_simp
      refine (HJ.out v2 adA adB CA CB hH).mono ?_
      rintro e wJ ⟨uJ, rfl, OJ, KJ⟩
      go_wp2_with fail
      refine hK.out _ _ (bs_call KJ hHeld) (fun hHeld => ?_)
      clear hK K
      try simp only [Act.put, List.getElem_toArray, List.getElem_cons_zero, List.getElem_cons_succ, List.setIfInBounds_toArray, List.set_cons_zero, List.set_cons_succ]
      refine wpAnyH_take (i := 12) (v := uJ) rfl (by kernel_rfl) (by kernel_rfl) (by kernel_rfl) (fun _ _ _ h => h) (Or.inl ⟨by rfl, fun W hW => ?_⟩) hHeld ?_
      · clear hW
        go_simp
      try simp only [Act.put, List.getElem_toArray, List.getElem_cons_zero, List.getElem_cons_succ, List.setIfInBounds_toArray, List.set_cons_zero, List.set_cons_succ]
      refine wpAnyH_done (by kernel_rfl) ?_ _
      have G4 := grown_trans G3 hHeld.2
      clear KJ hHeld hH CA CB
      go_wp2
      go_ret
      exact ⟨_, rfl, owns_mono OJ G3.size, G4⟩
  · refine step_build (by rfl) 26 2 _ (by rfl) _ (by kernel_rfl) [nb, 64] (bld2 nb 64) ?_
    intro adB v3 CB K3
    refine hK.out _ _ (bs_call K3 hHeld) (fun hHeld => ?_)
    clear hK K
    try simp only [Act.put, List.getElem_toArray, List.getElem_cons_zero, List.getElem_cons_succ, List.setIfInBounds_toArray, List.set_cons_zero, List.set_cons_succ]
    refine wpAnyH_ready (rs := [0]) (by kernel_rfl) (by simp) (AllReadyH.cons rfl (fun K hK => ?_) AllReadyH.nil)
    · refine step_build (by rfl) 26 4 _ (by rfl) _ (by kernel_rfl) [96, 0, 0, 0] (bld4 96 0 0 0) ?_
      intro adA v4 CA K4
      have CB' := CB.keptNone K4
      clear CB
      have CB := CB'
      clear CB'
      refine hK.out _ _ (bs_call K4 hHeld) (fun hHeld => ?_)
      clear hK K
      try simp only [Act.put, List.getElem_toArray, List.getElem_cons_zero, List.setIfInBounds_toArray, List.set_cons_zero, List.set_cons_succ]
      have hH := hHeld.2
      refine wpAnyH_ready (rs := [10]) (by kernel_rfl) (by simp) (AllReadyH.cons rfl (fun K hK => ?_) AllReadyH.nil)
      go_simp
      refine hK.out _ _ (bs_call (World.grownBy_alloc _ _ _) hHeld) (fun hHeld => ?_)
      clear hK K
      try simp only [Act.put, List.getElem_toArray, List.getElem_cons_zero, List.getElem_cons_succ, List.setIfInBounds_toArray, List.set_cons_zero, List.set_cons_succ]
      refine wpAnyH_ready (rs := [11]) (by kernel_rfl) (by simp) (AllReadyH.cons rfl (fun K hK => ?_) AllReadyH.nil)
      go_simp
      refine (HJ.out v4 adA adB CA CB hH).mono ?_
      rintro e wJ ⟨uJ, rfl, OJ, KJ⟩
      go_wp2_with fail
      refine hK.out _ _ (bs_call KJ hHeld) (fun hHeld => ?_)
      clear hK K
      try simp only [Act.put, List.getElem_toArray, List.getElem_cons_zero, List.getElem_cons_succ, List.setIfInBounds_toArray, List.set_cons_zero, List.set_cons_succ]
      refine wpAnyH_take (i := 12) (v := uJ) rfl (by kernel_rfl) (by kernel_rfl) (by kernel_rfl) (fun _ _ _ h => h) (Or.inl ⟨by rfl, fun W hW => ?_⟩) hHeld ?_
      · clear hW
        go_simp
      try simp only [Act.put, List.getElem_toArray, List.getElem_cons_zero, List.getElem_cons_succ, List.setIfInBounds_toArray, List.set_cons_zero, List.set_cons_succ]
      refine wpAnyH_done (by kernel_rfl) ?_ _
      have G4 := grown_trans G3 hHeld.2
      clear KJ hHeld hH CA CB
      go_wp2
      go_ret
      exact ⟨_, rfl, owns_mono OJ G3.size, G4⟩

set_option maxRecDepth 100000 in
set_option maxHeartbeats 4000000 in
theorem fip_any (s : Sp) (a : Option Addr) (ca : Nat) (w : World) (ok : s.ok) (hn : s.data.length ≤ 140737488355328) (hx : 0 ≤ s.next ∧ s.next ≤ 255) : Calls Tryz.prog 43 #[.agg (spA s a ca)] w fun e w' => ∃ v, e = .returned v ∧ Owns w' w.heap.size v (ip4V s) ∧ w.grownBy w' none := by
  have S0 : SAt (w.alloc (.cells (spA s a ca) 28)) w.heap.size s a ca := ⟨VAt.alloc w _ _, ok⟩
  have G0 : w.grownBy (w.alloc (.cells (spA s a ca) 28)) none := World.grownBy_alloc _ _ _
  have HSS : Hid ((Tryz.prog.info? 28).map (·.size) = some (spA s a ca).size) := spA_size ok a ca
  have HOK : Hid s.ok := ok
  have HLL : (loadV s).length ≤ 140737488355332 := by have := pre_len s; rw [load_pre, List.length_append]; omega
  obtain ⟨nb, hnb⟩ : ∃ nb : UInt8, s.next = (nb.toNat : Int) := ⟨UInt8.ofNat s.next.toNat, by rw [u8_of]; omega⟩
  have hnx : UInt8.ofNat s.next.toNat = nb := by rw [hnb]; simp
  obtain ⟨m, hm⟩ : ∃ m, (loadV s).length = m := ⟨_, rfl⟩
  obtain ⟨R, hR⟩ : ∃ R, ip4V s = R := ⟨_, rfl⟩
  have HR : Hid (R = [69, 0] ++ (be2 (20 + m) ++ (be4 0 ++ ([64, nb] ++ (be2 0 ++ (s.src.take 4 ++ s.dst.take 4)))))) := by
    show R = _
    rw [← hR, ip4V, hm, hnx]
  have HB : Hid (∀ W : World, Calls Tryz.prog 49 #[.agg (spA s a ca)] W fun e w' => e = .returned (.int .i64 (m : Int)) ∧ W.grownBy w' none) := by
    intro W
    have k := fbehind_any s a ca W ok hn
    rw [hm] at k
    exact k
  have hwn : IntKind.u8.wrap (nb.toNat : Int) = (nb.toNat : Int) := by rw [IntKind.wrap_u8]; have := nb.toNat_lt; omega
  rw [hm] at HLL
  rw [hR]
  obtain ⟨q, hq⟩ : ∃ q, (20 + m) % 4294967296 = q := ⟨_, rfl⟩
  have hw0 : IntKind.i64.wrap (20 + (m : Int)) = 20 + (m : Int) := by rw [IntKind.wrap_i64]; omega
  have hqe : IntKind.u32.wrap (20 + (m : Int)) = (q : Int) := by rw [IntKind.wrap_u32]; omega
  have HN : Hid (∀ W : World, Calls Tryz.prog 41 #[.int .i64 2, .int .u32 (q : Int)] W fun e w' => ∃ u, e = .returned u ∧ Owns w' W.heap.size u (be2 (20 + m)) ∧ W.grownBy w' none) := by
    intro W
    have k := number2 q (by omega) W
    rw [← hq, be2_mod, hq] at k
    exact k
  clear hm hR ok hnx hq
  go_enter Tryz.func43, Tryz.ntmps43
  go_upto_region 1 with fail
  generalize w.alloc (.cells (spA s a ca) 28) = w1 at *
  obtain ⟨C, hC⟩ : ∃ C, w.heap.size = C := ⟨_, rfl⟩
  have HCC : Hid (w.heap.size = C) := hC
  rw [hC] at S0 ⊢
  clear hC
  have SK := S0.1
  go_wp2_with (refine wpList_load_row rfl 28 (.tmp 1) rfl C rfl 28 (spA s a ca) (0, 0) _ SK Tryz.underlying28 rfl HSS.out ?_)
  refine (HB.out _).mono ?_
  rintro e w2 ⟨rfl, K2⟩
  have S2 := S0.kept K2
  have G2 := grown_trans G0 K2
  clear SK S0 G0 K2
  go_wp2_with fail
  refine (HN.out _).mono ?_
  rintro e w3 ⟨u, rfl, O3, K3⟩
  obtain ⟨a3, k3, rfl, C3, z3⟩ := O3.cells
  have S3 := S2.kept K3
  have G3 := grown_trans G2 K3
  have c7 := S3.eight.2.2.2.2.2.2.2
  rw [hnb] at c7
  have HS3 : Hid (SAt w3 C s a ca) := S3
  have HC3 : Hid (Cells w3 a3 (be2 (20 + m))) := C3
  have hbl : (be2 (20 + m)).length = 2 := rfl
  rw [hbl]
  clear O3 K3 S2 G2 S3 C3
  go_upto_region 2 with fail
  have HT4 : Hid ((s.src.take 4).length = 4 ∧ (s.dst.take 4).length = 4) := by
    have := HOK.out.src
    have := HOK.out.dst
    exact ⟨by rw [List.length_take]; omega, by rw [List.length_take]; omega⟩
  have HJ : Hid (∀ (W : World) (adA adB : Addr) (aD : Option Addr) (kD : Nat) (aE : Option Addr) (kE : Nat), Cells W (some adA) [69, 0] → Cells W aD (be4 0) → (aD = none → kD = 0) → Cells W (some adB) [64, nb] → Cells W aE (be2 0) → (aE = none → kE = 0) → w3.grownBy W none →
      Calls Tryz.prog 12 #[.slice (some ⟨W.heap.size, 0, none⟩) 7 7] (W.alloc (.cells #[.slice (some adA) 2 2, .slice a3 2 k3, .slice aD 4 kD, .slice (some adB) 2 2, .slice aE 2 kE, .slice (some ⟨C, 8, none⟩) 4 16, .slice (some ⟨C, 24, none⟩) 4 16] 26)) fun e w' => ∃ v, e = .returned v ∧ Owns w' w3.heap.size v R ∧ (W.alloc (.cells #[.slice (some adA) 2 2, .slice a3 2 k3, .slice aD 4 kD, .slice (some adB) 2 2, .slice aE 2 kE, .slice (some ⟨C, 8, none⟩) 4 16, .slice (some ⟨C, 24, none⟩) 4 16] 26)).grownBy w' none) := by
    intro W adA adB aD kD aE kE CA CD zD CB CE zE KW
    have CS := frange_cells (HS3.out.kept KW).srcR 4
    have CT := frange_cells (HS3.out.kept KW).dstR 4
    refine (join_seven 26 CA (by simp) (HC3.out.keptNone KW) z3 CD zD CB (by simp) CE zE CS (by simp) CT (by simp) 2 2 4 2 2 4 4 rfl rfl rfl rfl rfl HT4.out.1 HT4.out.2 (by omega)).mono ?_
    rintro e w' ⟨v, rfl, O, K⟩
    rw [← HR.out] at O
    exact ⟨v, rfl, owns_mono O KW.size, K⟩
  refine wp_region_held_drew (S := fun W => W.cell? ⟨C, 7, none⟩ = some (.int .i64 (nb.toNat : Int)) ∧ w3.grownBy W none) (by kernel_rfl) (bs_call (grown_drewN w3 1 none) ⟨c7, World.grownBy.refl _ _⟩) (fun hHeld => ?_)
  clear c7
  refine wpAnyH_take (i := 1) (v := .slice a3 2 k3) rfl (by kernel_rfl) (by kernel_rfl) (by kernel_rfl) (fun _ _ _ h => h) (Or.inl ⟨by rfl, fun W hW => ?_⟩) hHeld ?_
  · clear hW
    go_simp
  try simp only [Act.put, List.getElem_toArray, List.getElem_cons_zero, List.getElem_cons_succ, List.setIfInBounds_toArray, List.set_cons_zero, List.set_cons_succ]
  refine wpAnyH_take (i := 3) (v := .pointer (some ⟨C, 7, none⟩)) rfl (by kernel_rfl) (by kernel_rfl) (by kernel_rfl) (fun _ _ _ h => h) (Or.inl ⟨by rfl, fun W hW => ?_⟩) hHeld ?_
  · clear hW
    go_simp
  try simp only [Act.put, List.getElem_toArray, List.getElem_cons_zero, List.getElem_cons_succ, List.setIfInBounds_toArray, List.set_cons_zero, List.set_cons_succ]
  refine wpAnyH_take (i := 4) (v := .int .i64 (nb.toNat : Int)) rfl (by kernel_rfl) (by kernel_rfl) (by kernel_rfl) (fun _ _ _ h => h) (Or.inl ⟨by rfl, fun W hW => ?_⟩) hHeld ?_
  · have c := hW.1
    clear hW
    go_simp
  try simp only [Act.put, List.getElem_toArray, List.getElem_cons_zero, List.getElem_cons_succ, List.setIfInBounds_toArray, List.set_cons_zero, List.set_cons_succ]
  refine wpAnyH_take (i := 5) (v := .int .u8 (nb.toNat : Int)) rfl (by kernel_rfl) (by kernel_rfl) (by kernel_rfl) (fun _ _ _ h => h) (Or.inl ⟨by rfl, fun W hW => ?_⟩) hHeld ?_
  · clear hW
    go_simp
  try simp only [Act.put, List.getElem_toArray, List.getElem_cons_zero, List.getElem_cons_succ, List.setIfInBounds_toArray, List.set_cons_zero, List.set_cons_succ]
  refine wpAnyH_take (i := 8) (v := .pointer (some ⟨C, 8, none⟩)) rfl (by kernel_rfl) (by kernel_rfl) (by kernel_rfl) (fun _ _ _ h => h) (Or.inl ⟨by rfl, fun W hW => ?_⟩) hHeld ?_
  · clear hW
    go_simp
  try simp only [Act.put, List.getElem_toArray, List.getElem_cons_zero, List.getElem_cons_succ, List.setIfInBounds_toArray, List.set_cons_zero, List.set_cons_succ]
  refine wpAnyH_take (i := 9) (v := .slice (some ⟨C, 8, none⟩) 4 16) rfl (by kernel_rfl) (by kernel_rfl) (by kernel_rfl) (fun _ _ _ h => h) (Or.inl ⟨by rfl, fun W hW => ?_⟩) hHeld ?_
  · clear hW
    go_simp
  try simp only [Act.put, List.getElem_toArray, List.getElem_cons_zero, List.getElem_cons_succ, List.setIfInBounds_toArray, List.set_cons_zero, List.set_cons_succ]
  refine wpAnyH_take (i := 10) (v := .pointer (some ⟨C, 24, none⟩)) rfl (by kernel_rfl) (by kernel_rfl) (by kernel_rfl) (fun _ _ _ h => h) (Or.inl ⟨by rfl, fun W hW => ?_⟩) hHeld ?_
  · clear hW
    go_simp
  try simp only [Act.put, List.getElem_toArray, List.getElem_cons_zero, List.getElem_cons_succ, List.setIfInBounds_toArray, List.set_cons_zero, List.set_cons_succ]
  refine wpAnyH_take (i := 11) (v := .slice (some ⟨C, 24, none⟩) 4 16) rfl (by kernel_rfl) (by kernel_rfl) (by kernel_rfl) (fun _ _ _ h => h) (Or.inl ⟨by rfl, fun W hW => ?_⟩) hHeld ?_
  · clear hW
    go_simp
  try simp only [Act.put, List.getElem_toArray, List.getElem_cons_zero, List.getElem_cons_succ, List.setIfInBounds_toArray, List.set_cons_zero, List.set_cons_succ]
  refine wpAnyH_ready (rs := [0, 2, 6]) (by kernel_rfl) (by simp) (AllReadyH.cons rfl (fun K hK => ?_) (AllReadyH.cons rfl (fun K hK => ?_) (AllReadyH.cons rfl (fun K hK => ?_) AllReadyH.nil)))
  · refine step_build (by rfl) 26 2 _ (by rfl) _ (by kernel_rfl) [69, 0] (bld2 69 0) ?_
    intro adA v1 CA K1
    refine hK.out _ _ (bs_call K1 hHeld) (fun hHeld => ?_)
    clear hK K
    try simp only [Act.put, List.getElem_toArray, List.getElem_cons_zero, List.setIfInBounds_toArray, List.set_cons_zero, List.set_cons_succ]
    refine wpAnyH_ready (rs := [2, 6]) (by kernel_rfl) (by simp) (AllReadyH.cons rfl (fun K hK => ?_) (AllReadyH.cons rfl (fun K hK => ?_) AllReadyH.nil))
    · go_simp
      refine (number4 0 (by omega) _).mono ?_
      rintro e v2 ⟨u, rfl, O, K2⟩
      obtain ⟨aD, kD, rfl, CD, zD⟩ := O.cells
      clear O
      have CA' := CA.keptNone K2
      clear CA
      have CA := CA'
      clear CA'
      rw [show (be4 0).length = 4 from rfl]
      go_wp2_with fail
      refine hK.out _ _ (bs_call K2 hHeld) (fun hHeld => ?_)
      clear hK K
      try simp only [Act.put, List.getElem_toArray, List.getElem_cons_zero, List.getElem_cons_succ, List.setIfInBounds_toArray, List.set_cons_zero, List.set_cons_succ]
      refine wpAnyH_ready (rs := [6, 7]) (by kernel_rfl) (by simp) (AllReadyH.cons rfl (fun K hK => ?_) (AllReadyH.cons rfl (fun K hK => ?_) AllReadyH.nil))
      · refine step_build (by rfl) 26 2 _ (by rfl) _ (by kernel_rfl) [64, nb] (bld2 64 nb) ?_
        intro adB v3 CB K3
        have CA' := CA.keptNone K3
        clear CA
        have CA := CA'
        clear CA'
        have CD' := CD.keptNone K3
        clear CD
        have CD := CD'
        clear CD'
        refine hK.out _ _ (bs_call K3 hHeld) (fun hHeld => ?_)
        clear hK K
        try simp only [Act.put, List.getElem_toArray, List.getElem_cons_zero, List.getElem_cons_succ, List.setIfInBounds_toArray, List.set_cons_zero, List.set_cons_succ]
        refine wpAnyH_ready (rs := [7]) (by kernel_rfl) (by simp) (AllReadyH.cons rfl (fun K hK => ?_) AllReadyH.nil)
        · go_simp
          refine (number2 0 (by omega) _).mono ?_
          rintro e v4 ⟨u, rfl, O, K4⟩
          obtain ⟨aE, kE, rfl, CE, zE⟩ := O.cells
          clear O
          have CA' := CA.keptNone K4
          clear CA
          have CA := CA'
          clear CA'
          have CD' := CD.keptNone K4
          clear CD
          have CD := CD'
          clear CD'
          have CB' := CB.keptNone K4
          clear CB
          have CB := CB'
          clear CB'
          rw [show (be2 0).length = 2 from rfl]
          go_wp2_with fail
          refine hK.out _ _ (bs_call K4 hHeld) (fun hHeld => ?_)
          clear hK K
          try simp only [Act.put, List.getElem_toArray, List.getElem_cons_zero, List.getElem_cons_succ, List.setIfInBounds_toArray, List.set_cons_zero, List.set_cons_succ]
          have hH := hHeld.2
          refine wpAnyH_ready (rs := [12]) (by kernel_rfl) (by simp) (AllReadyH.cons rfl (fun K hK => ?_) AllReadyH.nil)
          go_simp
          refine hK.out _ _ (bs_call (World.grownBy_alloc _ _ _) hHeld) (fun hHeld => ?_)
          clear hK K
          try simp only [Act.put, List.getElem_toArray, List.getElem_cons_zero, List.getElem_cons_succ, List.setIfInBounds_toArray, List.set_cons_zero, List.set_cons_succ]
          refine wpAnyH_ready (rs := [13]) (by kernel_rfl) (by simp) (AllReadyH.cons rfl (fun K hK => ?_) AllReadyH.nil)
          go_simp
          refine (HJ.out v4 adA adB _ _ _ _ CA CD zD CB CE zE hH).mono ?_
          rintro e wJ ⟨uJ, rfl, OJ, KJ⟩
          go_wp2_with fail
          refine hK.out _ _ (bs_call KJ hHeld) (fun hHeld => ?_)
          clear hK K
          try simp only [Act.put, List.getElem_toArray, List.getElem_cons_zero, List.getElem_cons_succ, List.setIfInBounds_toArray, List.set_cons_zero, List.set_cons_succ]
          refine wpAnyH_take (i := 14) (v := uJ) rfl (by kernel_rfl) (by kernel_rfl) (by kernel_rfl) (fun _ _ _ h => h) (Or.inl ⟨by rfl, fun W hW => ?_⟩) hHeld ?_
          · clear hW
            go_simp
          try simp only [Act.put, List.getElem_toArray, List.getElem_cons_zero, List.getElem_cons_succ, List.setIfInBounds_toArray, List.set_cons_zero, List.set_cons_succ]
          refine wpAnyH_done (by kernel_rfl) ?_ _
          have G4 := grown_trans G3 hHeld.2
          clear KJ hHeld hH CA CB CD CE
          go_wp2
          go_ret
          exact ⟨_, rfl, owns_mono OJ G3.size, G4⟩
      · go_simp
        refine (number2 0 (by omega) _).mono ?_
        rintro e v5 ⟨u, rfl, O, K5⟩
        obtain ⟨aE, kE, rfl, CE, zE⟩ := O.cells
        clear O
        have CA' := CA.keptNone K5
        clear CA
        have CA := CA'
        clear CA'
        have CD' := CD.keptNone K5
        clear CD
        have CD := CD'
        clear CD'
        rw [show (be2 0).length = 2 from rfl]
        go_wp2_with fail
        refine hK.out _ _ (bs_call K5 hHeld) (fun hHeld => ?_)
        clear hK K
        try simp only [Act.put, List.getElem_toArray, List.getElem_cons_zero, List.getElem_cons_succ, List.setIfInBounds_toArray, List.set_cons_zero, List.set_cons_succ]
        refine wpAnyH_ready (rs := [6]) (by kernel_rfl) (by simp) (AllReadyH.cons rfl (fun K hK => ?_) AllReadyH.nil)
        · refine step_build (by rfl) 26 2 _ (by rfl) _ (by kernel_rfl) [64, nb] (bld2 64 nb) ?_
          intro adB v6 CB K6
          have CA' := CA.keptNone K6
          clear CA
          have CA := CA'
          clear CA'
          have CD' := CD.keptNone K6
          clear CD
          have CD := CD'
          clear CD'
          have CE' := CE.keptNone K6
          clear CE
          have CE := CE'
          clear CE'
          refine hK.out _ _ (bs_call K6 hHeld) (fun hHeld => ?_)
          clear hK K
          try simp only [Act.put, List.getElem_toArray, List.getElem_cons_zero, List.getElem_cons_succ, List.setIfInBounds_toArray, List.set_cons_zero, List.set_cons_succ]
          have hH := hHeld.2
          refine wpAnyH_ready (rs := [12]) (by kernel_rfl) (by simp) (AllReadyH.cons rfl (fun K hK => ?_) AllReadyH.nil)
          go_simp
          refine hK.out _ _ (bs_call (World.grownBy_alloc _ _ _) hHeld) (fun hHeld => ?_)
          clear hK K
          try simp only [Act.put, List.getElem_toArray, List.getElem_cons_zero, List.getElem_cons_succ, List.setIfInBounds_toArray, List.set_cons_zero, List.set_cons_succ]
          refine wpAnyH_ready (rs := [13]) (by kernel_rfl) (by simp) (AllReadyH.cons rfl (fun K hK => ?_) AllReadyH.nil)
          go_simp
          refine (HJ.out v6 adA adB _ _ _ _ CA CD zD CB CE zE hH).mono ?_
          rintro e wJ ⟨uJ, rfl, OJ, KJ⟩
          go_wp2_with fail
          refine hK.out _ _ (bs_call KJ hHeld) (fun hHeld => ?_)
          clear hK K
          try simp only [Act.put, List.getElem_toArray, List.getElem_cons_zero, List.getElem_cons_succ, List.setIfInBounds_toArray, List.set_cons_zero, List.set_cons_succ]
          refine wpAnyH_take (i := 14) (v := uJ) rfl (by kernel_rfl) (by kernel_rfl) (by kernel_rfl) (fun _ _ _ h => h) (Or.inl ⟨by rfl, fun W hW => ?_⟩) hHeld ?_
          · clear hW
            go_simp
          try simp only [Act.put, List.getElem_toArray, List.getElem_cons_zero, List.getElem_cons_succ, List.setIfInBounds_toArray, List.set_cons_zero, List.set_cons_succ]
          refine wpAnyH_done (by kernel_rfl) ?_ _
          have G4 := grown_trans G3 hHeld.2
          clear KJ hHeld hH CA CB CD CE
          go_wp2
          go_ret
          exact ⟨_, rfl, owns_mono OJ G3.size, G4⟩
    · refine step_build (by rfl) 26 2 _ (by rfl) _ (by kernel_rfl) [64, nb] (bld2 64 nb) ?_
      intro adB v7 CB K7
      have CA' := CA.keptNone K7
      clear CA
      have CA := CA'
      clear CA'
      refine hK.out _ _ (bs_call K7 hHeld) (fun hHeld => ?_)
      clear hK K
      try simp only [Act.put, List.getElem_toArray, List.getElem_cons_zero, List.getElem_cons_succ, List.setIfInBounds_toArray, List.set_cons_zero, List.set_cons_succ]
      refine wpAnyH_ready (rs := [2]) (by kernel_rfl) (by simp) (AllReadyH.cons rfl (fun K hK => ?_) AllReadyH.nil)
      · go_simp
        refine (number4 0 (by omega) _).mono ?_
        rintro e v8 ⟨u, rfl, O, K8⟩
        obtain ⟨aD, kD, rfl, CD, zD⟩ := O.cells
        clear O
        have CA' := CA.keptNone K8
        clear CA
        have CA := CA'
        clear CA'
        have CB' := CB.keptNone K8
        clear CB
        have CB := CB'
        clear CB'
        rw [show (be4 0).length = 4 from rfl]
        go_wp2_with fail
        refine hK.out _ _ (bs_call K8 hHeld) (fun hHeld => ?_)
        clear hK K
        try simp only [Act.put, List.getElem_toArray, List.getElem_cons_zero, List.getElem_cons_succ, List.setIfInBounds_toArray, List.set_cons_zero, List.set_cons_succ]
        refine wpAnyH_ready (rs := [7]) (by kernel_rfl) (by simp) (AllReadyH.cons rfl (fun K hK => ?_) AllReadyH.nil)
        · go_simp
          refine (number2 0 (by omega) _).mono ?_
          rintro e v9 ⟨u, rfl, O, K9⟩
          obtain ⟨aE, kE, rfl, CE, zE⟩ := O.cells
          clear O
          have CA' := CA.keptNone K9
          clear CA
          have CA := CA'
          clear CA'
          have CB' := CB.keptNone K9
          clear CB
          have CB := CB'
          clear CB'
          have CD' := CD.keptNone K9
          clear CD
          have CD := CD'
          clear CD'
          rw [show (be2 0).length = 2 from rfl]
          go_wp2_with fail
          refine hK.out _ _ (bs_call K9 hHeld) (fun hHeld => ?_)
          clear hK K
          try simp only [Act.put, List.getElem_toArray, List.getElem_cons_zero, List.getElem_cons_succ, List.setIfInBounds_toArray, List.set_cons_zero, List.set_cons_succ]
          have hH := hHeld.2
          refine wpAnyH_ready (rs := [12]) (by kernel_rfl) (by simp) (AllReadyH.cons rfl (fun K hK => ?_) AllReadyH.nil)
          go_simp
          refine hK.out _ _ (bs_call (World.grownBy_alloc _ _ _) hHeld) (fun hHeld => ?_)
          clear hK K
          try simp only [Act.put, List.getElem_toArray, List.getElem_cons_zero, List.getElem_cons_succ, List.setIfInBounds_toArray, List.set_cons_zero, List.set_cons_succ]
          refine wpAnyH_ready (rs := [13]) (by kernel_rfl) (by simp) (AllReadyH.cons rfl (fun K hK => ?_) AllReadyH.nil)
          go_simp
          refine (HJ.out v9 adA adB _ _ _ _ CA CD zD CB CE zE hH).mono ?_
          rintro e wJ ⟨uJ, rfl, OJ, KJ⟩
          go_wp2_with fail
          refine hK.out _ _ (bs_call KJ hHeld) (fun hHeld => ?_)
          clear hK K
          try simp only [Act.put, List.getElem_toArray, List.getElem_cons_zero, List.getElem_cons_succ, List.setIfInBounds_toArray, List.set_cons_zero, List.set_cons_succ]
          refine wpAnyH_take (i := 14) (v := uJ) rfl (by kernel_rfl) (by kernel_rfl) (by kernel_rfl) (fun _ _ _ h => h) (Or.inl ⟨by rfl, fun W hW => ?_⟩) hHeld ?_
          · clear hW
            go_simp
          try simp only [Act.put, List.getElem_toArray, List.getElem_cons_zero, List.getElem_cons_succ, List.setIfInBounds_toArray, List.set_cons_zero, List.set_cons_succ]
          refine wpAnyH_done (by kernel_rfl) ?_ _
          have G4 := grown_trans G3 hHeld.2
          clear KJ hHeld hH CA CB CD CE
          go_wp2
          go_ret
          exact ⟨_, rfl, owns_mono OJ G3.size, G4⟩
  · go_simp
    refine (number4 0 (by omega) _).mono ?_
    rintro e v10 ⟨u, rfl, O, K10⟩
    obtain ⟨aD, kD, rfl, CD, zD⟩ := O.cells
    clear O
    rw [show (be4 0).length = 4 from rfl]
    go_wp2_with fail
    refine hK.out _ _ (bs_call K10 hHeld) (fun hHeld => ?_)
    clear hK K
    try simp only [Act.put, List.getElem_toArray, List.getElem_cons_zero, List.getElem_cons_succ, List.setIfInBounds_toArray, List.set_cons_zero, List.set_cons_succ]
    refine wpAnyH_ready (rs := [0, 6, 7]) (by kernel_rfl) (by simp) (AllReadyH.cons rfl (fun K hK => ?_) (AllReadyH.cons rfl (fun K hK => ?_) (AllReadyH.cons rfl (fun K hK => ?_) AllReadyH.nil)))
    · refine step_build (by rfl) 26 2 _ (by rfl) _ (by kernel_rfl) [69, 0] (bld2 69 0) ?_
      intro adA v11 CA K11
      have CD' := CD.keptNone K11
      clear CD
      have CD := CD'
      clear CD'
      refine hK.out _ _ (bs_call K11 hHeld) (fun hHeld => ?_)
      clear hK K
      try simp only [Act.put, List.getElem_toArray, List.getElem_cons_zero, List.setIfInBounds_toArray, List.set_cons_zero, List.set_cons_succ]
      refine wpAnyH_ready (rs := [6, 7]) (by kernel_rfl) (by simp) (AllReadyH.cons rfl (fun K hK => ?_) (AllReadyH.cons rfl (fun K hK => ?_) AllReadyH.nil))
      · refine step_build (by rfl) 26 2 _ (by rfl) _ (by kernel_rfl) [64, nb] (bld2 64 nb) ?_
        intro adB v12 CB K12
        have CD' := CD.keptNone K12
        clear CD
        have CD := CD'
        clear CD'
        have CA' := CA.keptNone K12
        clear CA
        have CA := CA'
        clear CA'
        refine hK.out _ _ (bs_call K12 hHeld) (fun hHeld => ?_)
        clear hK K
        try simp only [Act.put, List.getElem_toArray, List.getElem_cons_zero, List.getElem_cons_succ, List.setIfInBounds_toArray, List.set_cons_zero, List.set_cons_succ]
        refine wpAnyH_ready (rs := [7]) (by kernel_rfl) (by simp) (AllReadyH.cons rfl (fun K hK => ?_) AllReadyH.nil)
        · go_simp
          refine (number2 0 (by omega) _).mono ?_
          rintro e v13 ⟨u, rfl, O, K13⟩
          obtain ⟨aE, kE, rfl, CE, zE⟩ := O.cells
          clear O
          have CD' := CD.keptNone K13
          clear CD
          have CD := CD'
          clear CD'
          have CA' := CA.keptNone K13
          clear CA
          have CA := CA'
          clear CA'
          have CB' := CB.keptNone K13
          clear CB
          have CB := CB'
          clear CB'
          rw [show (be2 0).length = 2 from rfl]
          go_wp2_with fail
          refine hK.out _ _ (bs_call K13 hHeld) (fun hHeld => ?_)
          clear hK K
          try simp only [Act.put, List.getElem_toArray, List.getElem_cons_zero, List.getElem_cons_succ, List.setIfInBounds_toArray, List.set_cons_zero, List.set_cons_succ]
          have hH := hHeld.2
          refine wpAnyH_ready (rs := [12]) (by kernel_rfl) (by simp) (AllReadyH.cons rfl (fun K hK => ?_) AllReadyH.nil)
          go_simp
          refine hK.out _ _ (bs_call (World.grownBy_alloc _ _ _) hHeld) (fun hHeld => ?_)
          clear hK K
          try simp only [Act.put, List.getElem_toArray, List.getElem_cons_zero, List.getElem_cons_succ, List.setIfInBounds_toArray, List.set_cons_zero, List.set_cons_succ]
          refine wpAnyH_ready (rs := [13]) (by kernel_rfl) (by simp) (AllReadyH.cons rfl (fun K hK => ?_) AllReadyH.nil)
          go_simp
          refine (HJ.out v13 adA adB _ _ _ _ CA CD zD CB CE zE hH).mono ?_
          rintro e wJ ⟨uJ, rfl, OJ, KJ⟩
          go_wp2_with fail
          refine hK.out _ _ (bs_call KJ hHeld) (fun hHeld => ?_)
          clear hK K
          try simp only [Act.put, List.getElem_toArray, List.getElem_cons_zero, List.getElem_cons_succ, List.setIfInBounds_toArray, List.set_cons_zero, List.set_cons_succ]
          refine wpAnyH_take (i := 14) (v := uJ) rfl (by kernel_rfl) (by kernel_rfl) (by kernel_rfl) (fun _ _ _ h => h) (Or.inl ⟨by rfl, fun W hW => ?_⟩) hHeld ?_
          · clear hW
            go_simp
          try simp only [Act.put, List.getElem_toArray, List.getElem_cons_zero, List.getElem_cons_succ, List.setIfInBounds_toArray, List.set_cons_zero, List.set_cons_succ]
          refine wpAnyH_done (by kernel_rfl) ?_ _
          have G4 := grown_trans G3 hHeld.2
          clear KJ hHeld hH CA CB CD CE
          go_wp2
          go_ret
          exact ⟨_, rfl, owns_mono OJ G3.size, G4⟩
      · go_simp
        refine (number2 0 (by omega) _).mono ?_
        rintro e v14 ⟨u, rfl, O, K14⟩
        obtain ⟨aE, kE, rfl, CE, zE⟩ := O.cells
        clear O
        have CD' := CD.keptNone K14
        clear CD
        have CD := CD'
        clear CD'
        have CA' := CA.keptNone K14
        clear CA
        have CA := CA'
        clear CA'
        rw [show (be2 0).length = 2 from rfl]
        go_wp2_with fail
        refine hK.out _ _ (bs_call K14 hHeld) (fun hHeld => ?_)
        clear hK K
        try simp only [Act.put, List.getElem_toArray, List.getElem_cons_zero, List.getElem_cons_succ, List.setIfInBounds_toArray, List.set_cons_zero, List.set_cons_succ]
        refine wpAnyH_ready (rs := [6]) (by kernel_rfl) (by simp) (AllReadyH.cons rfl (fun K hK => ?_) AllReadyH.nil)
        · refine step_build (by rfl) 26 2 _ (by rfl) _ (by kernel_rfl) [64, nb] (bld2 64 nb) ?_
          intro adB v15 CB K15
          have CD' := CD.keptNone K15
          clear CD
          have CD := CD'
          clear CD'
          have CA' := CA.keptNone K15
          clear CA
          have CA := CA'
          clear CA'
          have CE' := CE.keptNone K15
          clear CE
          have CE := CE'
          clear CE'
          refine hK.out _ _ (bs_call K15 hHeld) (fun hHeld => ?_)
          clear hK K
          try simp only [Act.put, List.getElem_toArray, List.getElem_cons_zero, List.getElem_cons_succ, List.setIfInBounds_toArray, List.set_cons_zero, List.set_cons_succ]
          have hH := hHeld.2
          refine wpAnyH_ready (rs := [12]) (by kernel_rfl) (by simp) (AllReadyH.cons rfl (fun K hK => ?_) AllReadyH.nil)
          go_simp
          refine hK.out _ _ (bs_call (World.grownBy_alloc _ _ _) hHeld) (fun hHeld => ?_)
          clear hK K
          try simp only [Act.put, List.getElem_toArray, List.getElem_cons_zero, List.getElem_cons_succ, List.setIfInBounds_toArray, List.set_cons_zero, List.set_cons_succ]
          refine wpAnyH_ready (rs := [13]) (by kernel_rfl) (by simp) (AllReadyH.cons rfl (fun K hK => ?_) AllReadyH.nil)
          go_simp
          refine (HJ.out v15 adA adB _ _ _ _ CA CD zD CB CE zE hH).mono ?_
          rintro e wJ ⟨uJ, rfl, OJ, KJ⟩
          go_wp2_with fail
          refine hK.out _ _ (bs_call KJ hHeld) (fun hHeld => ?_)
          clear hK K
          try simp only [Act.put, List.getElem_toArray, List.getElem_cons_zero, List.getElem_cons_succ, List.setIfInBounds_toArray, List.set_cons_zero, List.set_cons_succ]
          refine wpAnyH_take (i := 14) (v := uJ) rfl (by kernel_rfl) (by kernel_rfl) (by kernel_rfl) (fun _ _ _ h => h) (Or.inl ⟨by rfl, fun W hW => ?_⟩) hHeld ?_
          · clear hW
            go_simp
          try simp only [Act.put, List.getElem_toArray, List.getElem_cons_zero, List.getElem_cons_succ, List.setIfInBounds_toArray, List.set_cons_zero, List.set_cons_succ]
          refine wpAnyH_done (by kernel_rfl) ?_ _
          have G4 := grown_trans G3 hHeld.2
          clear KJ hHeld hH CA CB CD CE
          go_wp2
          go_ret
          exact ⟨_, rfl, owns_mono OJ G3.size, G4⟩
    · refine step_build (by rfl) 26 2 _ (by rfl) _ (by kernel_rfl) [64, nb] (bld2 64 nb) ?_
      intro adB v16 CB K16
      have CD' := CD.keptNone K16
      clear CD
      have CD := CD'
      clear CD'
      refine hK.out _ _ (bs_call K16 hHeld) (fun hHeld => ?_)
      clear hK K
      try simp only [Act.put, List.getElem_toArray, List.getElem_cons_zero, List.getElem_cons_succ, List.setIfInBounds_toArray, List.set_cons_zero, List.set_cons_succ]
      refine wpAnyH_ready (rs := [0, 7]) (by kernel_rfl) (by simp) (AllReadyH.cons rfl (fun K hK => ?_) (AllReadyH.cons rfl (fun K hK => ?_) AllReadyH.nil))
      · refine step_build (by rfl) 26 2 _ (by rfl) _ (by kernel_rfl) [69, 0] (bld2 69 0) ?_
        intro adA v17 CA K17
        have CD' := CD.keptNone K17
        clear CD
        have CD := CD'
        clear CD'
        have CB' := CB.keptNone K17
        clear CB
        have CB := CB'
        clear CB'
        refine hK.out _ _ (bs_call K17 hHeld) (fun hHeld => ?_)
        clear hK K
        try simp only [Act.put, List.getElem_toArray, List.getElem_cons_zero, List.setIfInBounds_toArray, List.set_cons_zero, List.set_cons_succ]
        refine wpAnyH_ready (rs := [7]) (by kernel_rfl) (by simp) (AllReadyH.cons rfl (fun K hK => ?_) AllReadyH.nil)
        · go_simp
          refine (number2 0 (by omega) _).mono ?_
          rintro e v18 ⟨u, rfl, O, K18⟩
          obtain ⟨aE, kE, rfl, CE, zE⟩ := O.cells
          clear O
          have CD' := CD.keptNone K18
          clear CD
          have CD := CD'
          clear CD'
          have CB' := CB.keptNone K18
          clear CB
          have CB := CB'
          clear CB'
          have CA' := CA.keptNone K18
          clear CA
          have CA := CA'
          clear CA'
          rw [show (be2 0).length = 2 from rfl]
          go_wp2_with fail
          refine hK.out _ _ (bs_call K18 hHeld) (fun hHeld => ?_)
          clear hK K
          try simp only [Act.put, List.getElem_toArray, List.getElem_cons_zero, List.getElem_cons_succ, List.setIfInBounds_toArray, List.set_cons_zero, List.set_cons_succ]
          have hH := hHeld.2
          refine wpAnyH_ready (rs := [12]) (by kernel_rfl) (by simp) (AllReadyH.cons rfl (fun K hK => ?_) AllReadyH.nil)
          go_simp
          refine hK.out _ _ (bs_call (World.grownBy_alloc _ _ _) hHeld) (fun hHeld => ?_)
          clear hK K
          try simp only [Act.put, List.getElem_toArray, List.getElem_cons_zero, List.getElem_cons_succ, List.setIfInBounds_toArray, List.set_cons_zero, List.set_cons_succ]
          refine wpAnyH_ready (rs := [13]) (by kernel_rfl) (by simp) (AllReadyH.cons rfl (fun K hK => ?_) AllReadyH.nil)
          go_simp
          refine (HJ.out v18 adA adB _ _ _ _ CA CD zD CB CE zE hH).mono ?_
          rintro e wJ ⟨uJ, rfl, OJ, KJ⟩
          go_wp2_with fail
          refine hK.out _ _ (bs_call KJ hHeld) (fun hHeld => ?_)
          clear hK K
          try simp only [Act.put, List.getElem_toArray, List.getElem_cons_zero, List.getElem_cons_succ, List.setIfInBounds_toArray, List.set_cons_zero, List.set_cons_succ]
          refine wpAnyH_take (i := 14) (v := uJ) rfl (by kernel_rfl) (by kernel_rfl) (by kernel_rfl) (fun _ _ _ h => h) (Or.inl ⟨by rfl, fun W hW => ?_⟩) hHeld ?_
          · clear hW
            go_simp
          try simp only [Act.put, List.getElem_toArray, List.getElem_cons_zero, List.getElem_cons_succ, List.setIfInBounds_toArray, List.set_cons_zero, List.set_cons_succ]
          refine wpAnyH_done (by kernel_rfl) ?_ _
          have G4 := grown_trans G3 hHeld.2
          clear KJ hHeld hH CA CB CD CE
          go_wp2
          go_ret
          exact ⟨_, rfl, owns_mono OJ G3.size, G4⟩
      · go_simp
        refine (number2 0 (by omega) _).mono ?_
        rintro e v19 ⟨u, rfl, O, K19⟩
        obtain ⟨aE, kE, rfl, CE, zE⟩ := O.cells
        clear O
        have CD' := CD.keptNone K19
        clear CD
        have CD := CD'
        clear CD'
        have CB' := CB.keptNone K19
        clear CB
        have CB := CB'
        clear CB'
        rw [show (be2 0).length = 2 from rfl]
        go_wp2_with fail
        refine hK.out _ _ (bs_call K19 hHeld) (fun hHeld => ?_)
        clear hK K
        try simp only [Act.put, List.getElem_toArray, List.getElem_cons_zero, List.getElem_cons_succ, List.setIfInBounds_toArray, List.set_cons_zero, List.set_cons_succ]
        refine wpAnyH_ready (rs := [0]) (by kernel_rfl) (by simp) (AllReadyH.cons rfl (fun K hK => ?_) AllReadyH.nil)
        · refine step_build (by rfl) 26 2 _ (by rfl) _ (by kernel_rfl) [69, 0] (bld2 69 0) ?_
          intro adA v20 CA K20
          have CD' := CD.keptNone K20
          clear CD
          have CD := CD'
          clear CD'
          have CB' := CB.keptNone K20
          clear CB
          have CB := CB'
          clear CB'
          have CE' := CE.keptNone K20
          clear CE
          have CE := CE'
          clear CE'
          refine hK.out _ _ (bs_call K20 hHeld) (fun hHeld => ?_)
          clear hK K
          try simp only [Act.put, List.getElem_toArray, List.getElem_cons_zero, List.setIfInBounds_toArray, List.set_cons_zero, List.set_cons_succ]
          have hH := hHeld.2
          refine wpAnyH_ready (rs := [12]) (by kernel_rfl) (by simp) (AllReadyH.cons rfl (fun K hK => ?_) AllReadyH.nil)
          go_simp
          refine hK.out _ _ (bs_call (World.grownBy_alloc _ _ _) hHeld) (fun hHeld => ?_)
          clear hK K
          try simp only [Act.put, List.getElem_toArray, List.getElem_cons_zero, List.getElem_cons_succ, List.setIfInBounds_toArray, List.set_cons_zero, List.set_cons_succ]
          refine wpAnyH_ready (rs := [13]) (by kernel_rfl) (by simp) (AllReadyH.cons rfl (fun K hK => ?_) AllReadyH.nil)
          go_simp
          refine (HJ.out v20 adA adB _ _ _ _ CA CD zD CB CE zE hH).mono ?_
          rintro e wJ ⟨uJ, rfl, OJ, KJ⟩
          go_wp2_with fail
          refine hK.out _ _ (bs_call KJ hHeld) (fun hHeld => ?_)
          clear hK K
          try simp only [Act.put, List.getElem_toArray, List.getElem_cons_zero, List.getElem_cons_succ, List.setIfInBounds_toArray, List.set_cons_zero, List.set_cons_succ]
          refine wpAnyH_take (i := 14) (v := uJ) rfl (by kernel_rfl) (by kernel_rfl) (by kernel_rfl) (fun _ _ _ h => h) (Or.inl ⟨by rfl, fun W hW => ?_⟩) hHeld ?_
          · clear hW
            go_simp
          try simp only [Act.put, List.getElem_toArray, List.getElem_cons_zero, List.getElem_cons_succ, List.setIfInBounds_toArray, List.set_cons_zero, List.set_cons_succ]
          refine wpAnyH_done (by kernel_rfl) ?_ _
          have G4 := grown_trans G3 hHeld.2
          clear KJ hHeld hH CA CB CD CE
          go_wp2
          go_ret
          exact ⟨_, rfl, owns_mono OJ G3.size, G4⟩
    · go_simp
      refine (number2 0 (by omega) _).mono ?_
      rintro e v21 ⟨u, rfl, O, K21⟩
      obtain ⟨aE, kE, rfl, CE, zE⟩ := O.cells
      clear O
      have CD' := CD.keptNone K21
      clear CD
      have CD := CD'
      clear CD'
      rw [show (be2 0).length = 2 from rfl]
      go_wp2_with fail
      refine hK.out _ _ (bs_call K21 hHeld) (fun hHeld => ?_)
      clear hK K
      try simp only [Act.put, List.getElem_toArray, List.getElem_cons_zero, List.getElem_cons_succ, List.setIfInBounds_toArray, List.set_cons_zero, List.set_cons_succ]
      refine wpAnyH_ready (rs := [0, 6]) (by kernel_rfl) (by simp) (AllReadyH.cons rfl (fun K hK => ?_) (AllReadyH.cons rfl (fun K hK => ?_) AllReadyH.nil))
      · refine step_build (by rfl) 26 2 _ (by rfl) _ (by kernel_rfl) [69, 0] (bld2 69 0) ?_
        intro adA v22 CA K22
        have CD' := CD.keptNone K22
        clear CD
        have CD := CD'
        clear CD'
        have CE' := CE.keptNone K22
        clear CE
        have CE := CE'
        clear CE'
        refine hK.out _ _ (bs_call K22 hHeld) (fun hHeld => ?_)
        clear hK K
        try simp only [Act.put, List.getElem_toArray, List.getElem_cons_zero, List.setIfInBounds_toArray, List.set_cons_zero, List.set_cons_succ]
        refine wpAnyH_ready (rs := [6]) (by kernel_rfl) (by simp) (AllReadyH.cons rfl (fun K hK => ?_) AllReadyH.nil)
        · refine step_build (by rfl) 26 2 _ (by rfl) _ (by kernel_rfl) [64, nb] (bld2 64 nb) ?_
          intro adB v23 CB K23
          have CD' := CD.keptNone K23
          clear CD
          have CD := CD'
          clear CD'
          have CE' := CE.keptNone K23
          clear CE
          have CE := CE'
          clear CE'
          have CA' := CA.keptNone K23
          clear CA
          have CA := CA'
          clear CA'
          refine hK.out _ _ (bs_call K23 hHeld) (fun hHeld => ?_)
          clear hK K
          try simp only [Act.put, List.getElem_toArray, List.getElem_cons_zero, List.getElem_cons_succ, List.setIfInBounds_toArray, List.set_cons_zero, List.set_cons_succ]
          have hH := hHeld.2
          refine wpAnyH_ready (rs := [12]) (by kernel_rfl) (by simp) (AllReadyH.cons rfl (fun K hK => ?_) AllReadyH.nil)
          go_simp
          refine hK.out _ _ (bs_call (World.grownBy_alloc _ _ _) hHeld) (fun hHeld => ?_)
          clear hK K
          try simp only [Act.put, List.getElem_toArray, List.getElem_cons_zero, List.getElem_cons_succ, List.setIfInBounds_toArray, List.set_cons_zero, List.set_cons_succ]
          refine wpAnyH_ready (rs := [13]) (by kernel_rfl) (by simp) (AllReadyH.cons rfl (fun K hK => ?_) AllReadyH.nil)
          go_simp
          refine (HJ.out v23 adA adB _ _ _ _ CA CD zD CB CE zE hH).mono ?_
          rintro e wJ ⟨uJ, rfl, OJ, KJ⟩
          go_wp2_with fail
          refine hK.out _ _ (bs_call KJ hHeld) (fun hHeld => ?_)
          clear hK K
          try simp only [Act.put, List.getElem_toArray, List.getElem_cons_zero, List.getElem_cons_succ, List.setIfInBounds_toArray, List.set_cons_zero, List.set_cons_succ]
          refine wpAnyH_take (i := 14) (v := uJ) rfl (by kernel_rfl) (by kernel_rfl) (by kernel_rfl) (fun _ _ _ h => h) (Or.inl ⟨by rfl, fun W hW => ?_⟩) hHeld ?_
          · clear hW
            go_simp
          try simp only [Act.put, List.getElem_toArray, List.getElem_cons_zero, List.getElem_cons_succ, List.setIfInBounds_toArray, List.set_cons_zero, List.set_cons_succ]
          refine wpAnyH_done (by kernel_rfl) ?_ _
          have G4 := grown_trans G3 hHeld.2
          clear KJ hHeld hH CA CB CD CE
          go_wp2
          go_ret
          exact ⟨_, rfl, owns_mono OJ G3.size, G4⟩
      · refine step_build (by rfl) 26 2 _ (by rfl) _ (by kernel_rfl) [64, nb] (bld2 64 nb) ?_
        intro adB v24 CB K24
        have CD' := CD.keptNone K24
        clear CD
        have CD := CD'
        clear CD'
        have CE' := CE.keptNone K24
        clear CE
        have CE := CE'
        clear CE'
        refine hK.out _ _ (bs_call K24 hHeld) (fun hHeld => ?_)
        clear hK K
        try simp only [Act.put, List.getElem_toArray, List.getElem_cons_zero, List.getElem_cons_succ, List.setIfInBounds_toArray, List.set_cons_zero, List.set_cons_succ]
        refine wpAnyH_ready (rs := [0]) (by kernel_rfl) (by simp) (AllReadyH.cons rfl (fun K hK => ?_) AllReadyH.nil)
        · refine step_build (by rfl) 26 2 _ (by rfl) _ (by kernel_rfl) [69, 0] (bld2 69 0) ?_
          intro adA v25 CA K25
          have CD' := CD.keptNone K25
          clear CD
          have CD := CD'
          clear CD'
          have CE' := CE.keptNone K25
          clear CE
          have CE := CE'
          clear CE'
          have CB' := CB.keptNone K25
          clear CB
          have CB := CB'
          clear CB'
          refine hK.out _ _ (bs_call K25 hHeld) (fun hHeld => ?_)
          clear hK K
          try simp only [Act.put, List.getElem_toArray, List.getElem_cons_zero, List.setIfInBounds_toArray, List.set_cons_zero, List.set_cons_succ]
          have hH := hHeld.2
          refine wpAnyH_ready (rs := [12]) (by kernel_rfl) (by simp) (AllReadyH.cons rfl (fun K hK => ?_) AllReadyH.nil)
          go_simp
          refine hK.out _ _ (bs_call (World.grownBy_alloc _ _ _) hHeld) (fun hHeld => ?_)
          clear hK K
          try simp only [Act.put, List.getElem_toArray, List.getElem_cons_zero, List.getElem_cons_succ, List.setIfInBounds_toArray, List.set_cons_zero, List.set_cons_succ]
          refine wpAnyH_ready (rs := [13]) (by kernel_rfl) (by simp) (AllReadyH.cons rfl (fun K hK => ?_) AllReadyH.nil)
          go_simp
          refine (HJ.out v25 adA adB _ _ _ _ CA CD zD CB CE zE hH).mono ?_
          rintro e wJ ⟨uJ, rfl, OJ, KJ⟩
          go_wp2_with fail
          refine hK.out _ _ (bs_call KJ hHeld) (fun hHeld => ?_)
          clear hK K
          try simp only [Act.put, List.getElem_toArray, List.getElem_cons_zero, List.getElem_cons_succ, List.setIfInBounds_toArray, List.set_cons_zero, List.set_cons_succ]
          refine wpAnyH_take (i := 14) (v := uJ) rfl (by kernel_rfl) (by kernel_rfl) (by kernel_rfl) (fun _ _ _ h => h) (Or.inl ⟨by rfl, fun W hW => ?_⟩) hHeld ?_
          · clear hW
            go_simp
          try simp only [Act.put, List.getElem_toArray, List.getElem_cons_zero, List.getElem_cons_succ, List.setIfInBounds_toArray, List.set_cons_zero, List.set_cons_succ]
          refine wpAnyH_done (by kernel_rfl) ?_ _
          have G4 := grown_trans G3 hHeld.2
          clear KJ hHeld hH CA CB CD CE
          go_wp2
          go_ret
          exact ⟨_, rfl, owns_mono OJ G3.size, G4⟩
  · refine step_build (by rfl) 26 2 _ (by rfl) _ (by kernel_rfl) [64, nb] (bld2 64 nb) ?_
    intro adB v26 CB K26
    refine hK.out _ _ (bs_call K26 hHeld) (fun hHeld => ?_)
    clear hK K
    try simp only [Act.put, List.getElem_toArray, List.getElem_cons_zero, List.getElem_cons_succ, List.setIfInBounds_toArray, List.set_cons_zero, List.set_cons_succ]
    refine wpAnyH_ready (rs := [0, 2]) (by kernel_rfl) (by simp) (AllReadyH.cons rfl (fun K hK => ?_) (AllReadyH.cons rfl (fun K hK => ?_) AllReadyH.nil))
    · refine step_build (by rfl) 26 2 _ (by rfl) _ (by kernel_rfl) [69, 0] (bld2 69 0) ?_
      intro adA v27 CA K27
      have CB' := CB.keptNone K27
      clear CB
      have CB := CB'
      clear CB'
      refine hK.out _ _ (bs_call K27 hHeld) (fun hHeld => ?_)
      clear hK K
      try simp only [Act.put, List.getElem_toArray, List.getElem_cons_zero, List.setIfInBounds_toArray, List.set_cons_zero, List.set_cons_succ]
      refine wpAnyH_ready (rs := [2]) (by kernel_rfl) (by simp) (AllReadyH.cons rfl (fun K hK => ?_) AllReadyH.nil)
      · go_simp
        refine (number4 0 (by omega) _).mono ?_
        rintro e v28 ⟨u, rfl, O, K28⟩
        obtain ⟨aD, kD, rfl, CD, zD⟩ := O.cells
        clear O
        have CB' := CB.keptNone K28
        clear CB
        have CB := CB'
        clear CB'
        have CA' := CA.keptNone K28
        clear CA
        have CA := CA'
        clear CA'
        rw [show (be4 0).length = 4 from rfl]
        go_wp2_with fail
        refine hK.out _ _ (bs_call K28 hHeld) (fun hHeld => ?_)
        clear hK K
        try simp only [Act.put, List.getElem_toArray, List.getElem_cons_zero, List.getElem_cons_succ, List.setIfInBounds_toArray, List.set_cons_zero, List.set_cons_succ]
        refine wpAnyH_ready (rs := [7]) (by kernel_rfl) (by simp) (AllReadyH.cons rfl (fun K hK => ?_) AllReadyH.nil)
        · go_simp
          refine (number2 0 (by omega) _).mono ?_
          rintro e v29 ⟨u, rfl, O, K29⟩
          obtain ⟨aE, kE, rfl, CE, zE⟩ := O.cells
          clear O
          have CB' := CB.keptNone K29
          clear CB
          have CB := CB'
          clear CB'
          have CA' := CA.keptNone K29
          clear CA
          have CA := CA'
          clear CA'
          have CD' := CD.keptNone K29
          clear CD
          have CD := CD'
          clear CD'
          rw [show (be2 0).length = 2 from rfl]
          go_wp2_with fail
          refine hK.out _ _ (bs_call K29 hHeld) (fun hHeld => ?_)
          clear hK K
          try simp only [Act.put, List.getElem_toArray, List.getElem_cons_zero, List.getElem_cons_succ, List.setIfInBounds_toArray, List.set_cons_zero, List.set_cons_succ]
          have hH := hHeld.2
          refine wpAnyH_ready (rs := [12]) (by kernel_rfl) (by simp) (AllReadyH.cons rfl (fun K hK => ?_) AllReadyH.nil)
          go_simp
          refine hK.out _ _ (bs_call (World.grownBy_alloc _ _ _) hHeld) (fun hHeld => ?_)
          clear hK K
          try simp only [Act.put, List.getElem_toArray, List.getElem_cons_zero, List.getElem_cons_succ, List.setIfInBounds_toArray, List.set_cons_zero, List.set_cons_succ]
          refine wpAnyH_ready (rs := [13]) (by kernel_rfl) (by simp) (AllReadyH.cons rfl (fun K hK => ?_) AllReadyH.nil)
          go_simp
          refine (HJ.out v29 adA adB _ _ _ _ CA CD zD CB CE zE hH).mono ?_
          rintro e wJ ⟨uJ, rfl, OJ, KJ⟩
          go_wp2_with fail
          refine hK.out _ _ (bs_call KJ hHeld) (fun hHeld => ?_)
          clear hK K
          try simp only [Act.put, List.getElem_toArray, List.getElem_cons_zero, List.getElem_cons_succ, List.setIfInBounds_toArray, List.set_cons_zero, List.set_cons_succ]
          refine wpAnyH_take (i := 14) (v := uJ) rfl (by kernel_rfl) (by kernel_rfl) (by kernel_rfl) (fun _ _ _ h => h) (Or.inl ⟨by rfl, fun W hW => ?_⟩) hHeld ?_
          · clear hW
            go_simp
          try simp only [Act.put, List.getElem_toArray, List.getElem_cons_zero, List.getElem_cons_succ, List.setIfInBounds_toArray, List.set_cons_zero, List.set_cons_succ]
          refine wpAnyH_done (by kernel_rfl) ?_ _
          have G4 := grown_trans G3 hHeld.2
          clear KJ hHeld hH CA CB CD CE
          go_wp2
          go_ret
          exact ⟨_, rfl, owns_mono OJ G3.size, G4⟩
    · go_simp
      refine (number4 0 (by omega) _).mono ?_
      rintro e v30 ⟨u, rfl, O, K30⟩
      obtain ⟨aD, kD, rfl, CD, zD⟩ := O.cells
      clear O
      have CB' := CB.keptNone K30
      clear CB
      have CB := CB'
      clear CB'
      rw [show (be4 0).length = 4 from rfl]
      go_wp2_with fail
      refine hK.out _ _ (bs_call K30 hHeld) (fun hHeld => ?_)
      clear hK K
      try simp only [Act.put, List.getElem_toArray, List.getElem_cons_zero, List.getElem_cons_succ, List.setIfInBounds_toArray, List.set_cons_zero, List.set_cons_succ]
      refine wpAnyH_ready (rs := [0, 7]) (by kernel_rfl) (by simp) (AllReadyH.cons rfl (fun K hK => ?_) (AllReadyH.cons rfl (fun K hK => ?_) AllReadyH.nil))
      · refine step_build (by rfl) 26 2 _ (by rfl) _ (by kernel_rfl) [69, 0] (bld2 69 0) ?_
        intro adA v31 CA K31
        have CB' := CB.keptNone K31
        clear CB
        have CB := CB'
        clear CB'
        have CD' := CD.keptNone K31
        clear CD
        have CD := CD'
        clear CD'
        refine hK.out _ _ (bs_call K31 hHeld) (fun hHeld => ?_)
        clear hK K
        try simp only [Act.put, List.getElem_toArray, List.getElem_cons_zero, List.setIfInBounds_toArray, List.set_cons_zero, List.set_cons_succ]
        refine wpAnyH_ready (rs := [7]) (by kernel_rfl) (by simp) (AllReadyH.cons rfl (fun K hK => ?_) AllReadyH.nil)
        · go_simp
          refine (number2 0 (by omega) _).mono ?_
          rintro e v32 ⟨u, rfl, O, K32⟩
          obtain ⟨aE, kE, rfl, CE, zE⟩ := O.cells
          clear O
          have CB' := CB.keptNone K32
          clear CB
          have CB := CB'
          clear CB'
          have CD' := CD.keptNone K32
          clear CD
          have CD := CD'
          clear CD'
          have CA' := CA.keptNone K32
          clear CA
          have CA := CA'
          clear CA'
          rw [show (be2 0).length = 2 from rfl]
          go_wp2_with fail
          refine hK.out _ _ (bs_call K32 hHeld) (fun hHeld => ?_)
          clear hK K
          try simp only [Act.put, List.getElem_toArray, List.getElem_cons_zero, List.getElem_cons_succ, List.setIfInBounds_toArray, List.set_cons_zero, List.set_cons_succ]
          have hH := hHeld.2
          refine wpAnyH_ready (rs := [12]) (by kernel_rfl) (by simp) (AllReadyH.cons rfl (fun K hK => ?_) AllReadyH.nil)
          go_simp
          refine hK.out _ _ (bs_call (World.grownBy_alloc _ _ _) hHeld) (fun hHeld => ?_)
          clear hK K
          try simp only [Act.put, List.getElem_toArray, List.getElem_cons_zero, List.getElem_cons_succ, List.setIfInBounds_toArray, List.set_cons_zero, List.set_cons_succ]
          refine wpAnyH_ready (rs := [13]) (by kernel_rfl) (by simp) (AllReadyH.cons rfl (fun K hK => ?_) AllReadyH.nil)
          go_simp
          refine (HJ.out v32 adA adB _ _ _ _ CA CD zD CB CE zE hH).mono ?_
          rintro e wJ ⟨uJ, rfl, OJ, KJ⟩
          go_wp2_with fail
          refine hK.out _ _ (bs_call KJ hHeld) (fun hHeld => ?_)
          clear hK K
          try simp only [Act.put, List.getElem_toArray, List.getElem_cons_zero, List.getElem_cons_succ, List.setIfInBounds_toArray, List.set_cons_zero, List.set_cons_succ]
          refine wpAnyH_take (i := 14) (v := uJ) rfl (by kernel_rfl) (by kernel_rfl) (by kernel_rfl) (fun _ _ _ h => h) (Or.inl ⟨by rfl, fun W hW => ?_⟩) hHeld ?_
          · clear hW
            go_simp
          try simp only [Act.put, List.getElem_toArray, List.getElem_cons_zero, List.getElem_cons_succ, List.setIfInBounds_toArray, List.set_cons_zero, List.set_cons_succ]
          refine wpAnyH_done (by kernel_rfl) ?_ _
          have G4 := grown_trans G3 hHeld.2
          clear KJ hHeld hH CA CB CD CE
          go_wp2
          go_ret
          exact ⟨_, rfl, owns_mono OJ G3.size, G4⟩
      · go_simp
        refine (number2 0 (by omega) _).mono ?_
        rintro e v33 ⟨u, rfl, O, K33⟩
        obtain ⟨aE, kE, rfl, CE, zE⟩ := O.cells
        clear O
        have CB' := CB.keptNone K33
        clear CB
        have CB := CB'
        clear CB'
        have CD' := CD.keptNone K33
        clear CD
        have CD := CD'
        clear CD'
        rw [show (be2 0).length = 2 from rfl]
        go_wp2_with fail
        refine hK.out _ _ (bs_call K33 hHeld) (fun hHeld => ?_)
        clear hK K
        try simp only [Act.put, List.getElem_toArray, List.getElem_cons_zero, List.getElem_cons_succ, List.setIfInBounds_toArray, List.set_cons_zero, List.set_cons_succ]
        refine wpAnyH_ready (rs := [0]) (by kernel_rfl) (by simp) (AllReadyH.cons rfl (fun K hK => ?_) AllReadyH.nil)
        · refine step_build (by rfl) 26 2 _ (by rfl) _ (by kernel_rfl) [69, 0] (bld2 69 0) ?_
          intro adA v34 CA K34
          have CB' := CB.keptNone K34
          clear CB
          have CB := CB'
          clear CB'
          have CD' := CD.keptNone K34
          clear CD
          have CD := CD'
          clear CD'
          have CE' := CE.keptNone K34
          clear CE
          have CE := CE'
          clear CE'
          refine hK.out _ _ (bs_call K34 hHeld) (fun hHeld => ?_)
          clear hK K
          try simp only [Act.put, List.getElem_toArray, List.getElem_cons_zero, List.setIfInBounds_toArray, List.set_cons_zero, List.set_cons_succ]
          have hH := hHeld.2
          refine wpAnyH_ready (rs := [12]) (by kernel_rfl) (by simp) (AllReadyH.cons rfl (fun K hK => ?_) AllReadyH.nil)
          go_simp
          refine hK.out _ _ (bs_call (World.grownBy_alloc _ _ _) hHeld) (fun hHeld => ?_)
          clear hK K
          try simp only [Act.put, List.getElem_toArray, List.getElem_cons_zero, List.getElem_cons_succ, List.setIfInBounds_toArray, List.set_cons_zero, List.set_cons_succ]
          refine wpAnyH_ready (rs := [13]) (by kernel_rfl) (by simp) (AllReadyH.cons rfl (fun K hK => ?_) AllReadyH.nil)
          go_simp
          refine (HJ.out v34 adA adB _ _ _ _ CA CD zD CB CE zE hH).mono ?_
          rintro e wJ ⟨uJ, rfl, OJ, KJ⟩
          go_wp2_with fail
          refine hK.out _ _ (bs_call KJ hHeld) (fun hHeld => ?_)
          clear hK K
          try simp only [Act.put, List.getElem_toArray, List.getElem_cons_zero, List.getElem_cons_succ, List.setIfInBounds_toArray, List.set_cons_zero, List.set_cons_succ]
          refine wpAnyH_take (i := 14) (v := uJ) rfl (by kernel_rfl) (by kernel_rfl) (by kernel_rfl) (fun _ _ _ h => h) (Or.inl ⟨by rfl, fun W hW => ?_⟩) hHeld ?_
          · clear hW
            go_simp
          try simp only [Act.put, List.getElem_toArray, List.getElem_cons_zero, List.getElem_cons_succ, List.setIfInBounds_toArray, List.set_cons_zero, List.set_cons_succ]
          refine wpAnyH_done (by kernel_rfl) ?_ _
          have G4 := grown_trans G3 hHeld.2
          clear KJ hHeld hH CA CB CD CE
          go_wp2
          go_ret
          exact ⟨_, rfl, owns_mono OJ G3.size, G4⟩

end Go.Proofs.YtnojpepjloceoaaGreat
