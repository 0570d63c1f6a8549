/-
  For every number and every list of bytes (its capacity at most 2^47 - 4096 bytes, as the form itself says of each argument) riddlelaw7.FramePackets returns true and leaves what was there as it was: no condition of ours.
-/
import Derived.Test.YtjjccbegljkkfaaOpen
import Derived.Test.YtjjccbegljkkfaaAwake7
namespace Go.Proofs.Ytjjccbegljkkfaa
open Go.ChangeShapes Go.WideShapes Go.ChangeAt Go.RowKit
open Go.ChangeMaps (open_string shut_string)
set_option maxRecDepth 100000
namespace framePackets

set_option maxHeartbeats 2000000 in
theorem walk (way : Int) (a : Option Addr) (ca : Nat) (xs : List UInt8) (w : World) (ha : Cells w a xs) (hc0 : a = none → ca = 0) (hn : xs.length ≤ 140737488351232) :
    Calls Try.prog 5 #[.int .i64 way, .slice a xs.length ca] w fun e w' => e = .returned (.bool true) ∧ w.grownBy w' none := by
  have H : Hid (Cells w a xs) := ha
  clear ha
  have hpl := packV_len way xs
  go_enter Try.func5, Try.ntmps5
  go_wp2_with fail
  refine (refpacket_any way a ca xs _ H.out hc0).mono ?_
  rintro e w1 ⟨want, rfl, O1, G1⟩
  obtain ⟨ao1, cap1, rfl, C1, _, _, B1, _⟩ := O1.shape
  clear O1
  go_wp2_with fail
  refine (lend_any a ca xs _ (H.out.keptNone G1) hc0 hn).mono ?_
  rintro e w2 ⟨v2, rfl, L2, K2⟩
  obtain ⟨g, cap, rfl, hcap, hcm, hg1, hg2, hown⟩ := L2
  have C2 := (cells_front hown).1
  have G2 := grown_trans G1 K2
  have D2 := C1.keptNone K2
  go_wp2_with fail
  refine (packet_any way _ cap xs _ C2 (by simp)).mono ?_
  rintro e w3 ⟨x, rfl, O3, K3⟩
  have G3 := grown_trans G2 K3
  have D3 := D2.keptNone K3
  have own3 := hown.kept K3 (by simp [Value.ownBlock])
  clear C2 D2 C1 hown
  go_wp2_with fail
  refine (kept_any g cap a ca xs _ (owns_mono own3 (Nat.zero_le _)) (H.out.keptNone G3) hn).mono ?_
  rintro e w4 ⟨rfl, K4⟩
  have D4 := D3.keptUp w1.heap.size (fun ad had => (B1 ad had).2) K4 (by intro k hk; obtain rfl := Option.some.inj hk; exact hg1)
  have O4 : Owns w4 w2.heap.size x (packV way xs) := O3.kept K4 (by
    right
    intro e
    have := (O3.lt g e).1
    omega)
  have G4 : w.grownBy w4 none := grown_trans_new G3 K4 (by intro k hk; obtain rfl := Option.some.inj hk; have := G1.size; omega)
  clear own3 D3 O3
  go_wp2_with fail
  refine (copy_any a ca xs _ (H.out.keptNone G4) hc0 (by omega)).mono ?_
  rintro e w5 ⟨v5, rfl, O5, K5⟩
  obtain ⟨ao5, cap5, rfl, C5, _, _, B5, hob⟩ := O5.shape
  have hnil5 : ao5 = none → cap5 = 0 := by
    intro e
    subst e
    rcases O5.2 with ⟨h, _⟩ | ⟨_, _, _, h, _⟩
    · simp only [Value.slice.injEq] at h
      exact h.2.2
    · simp at h
  have D5 := D4.keptNone K5
  have O5x := O4.kept K5 (by cases h : x.ownBlock <;> simp)
  have G5 := grown_trans G4 K5
  clear O5 hob B5 D4
  go_wp2_with fail
  refine (packet_any way _ cap5 xs _ C5 hnil5).mono ?_
  rintro e w6 ⟨y, rfl, O6, K6⟩
  obtain ⟨ao6, cap6, rfl, C6, _, _, B6, _⟩ := O6.shape
  have D6 := D5.keptNone K6
  have O6x := O5x.kept K6 (by cases h : x.ownBlock <;> simp)
  have G6 := grown_trans G5 K6
  have E6 : ∃ aox capx, x = .slice aox (packV way xs).length capx ∧ Cells w6 aox (packV way xs) := by
    obtain ⟨aox, capx, h, c, _⟩ := Owns.shape O6x
    exact ⟨aox, capx, h, c⟩
  obtain ⟨aox, capx, hx, Cx⟩ := E6
  subst hx
  clear C5 O6 D5 O5x
  go_wp2_with fail
  refine (same_any aox ao1 capx cap1 _ _ Cx D6 (by omega)).mono ?_
  rintro e w7 ⟨rfl, n7, rfl⟩
  clear Cx
  go_wp2_with fail
  refine (spoil_own (xs := packV way xs) (base := w2.heap.size) (w6.drewN n7) O6x (by omega)).mono ?_
  rintro e w8 ⟨rfl, K8⟩
  have K9 : w6.grownBy w8 _ := grown_trans (grown_drewN w6 n7 _) K8
  have hxb := O6x.lt
  have hx4 := O4.lt
  have D8 := D6.keptUp w1.heap.size (fun ad had => (B1 ad had).2) K9 (fun k hk => by have := (hxb k hk).1; have := K2.size; omega)
  have C8 := C6.keptDown w5.heap.size (fun ad had => (B6 ad had).1) K9 (fun k hk => by have := (hx4 k hk).2; have := K5.size; omega)
  have G8 : w.grownBy w8 none := grown_trans_new G6 K9 (fun k hk => by have := (hxb k hk).1; have := G2.size; omega)
  clear K8 K9 D6 C6 O6x
  go_wp2_with fail
  refine (same_any ao6 ao1 cap6 cap1 _ _ C8 D8 (by omega)).mono ?_
  rintro e w9 ⟨rfl, n9, rfl⟩
  have G9 := grown_trans G8 (grown_drewN w8 n9 none)
  clear C8 D8
  go_wp2_with fail
  refine (awake7_any _).mono ?_
  rintro e w10 ⟨rfl, K10⟩
  have G10 := grown_trans G9 K10
  clear K10 G9 G8 G6 G5 G4 G3 G2 G1 K2 K3 K4 K5 K6
  go_wp2
  go_ret
  exact ⟨rfl, G10⟩

set_option maxRecDepth 100000 in
theorem lifted (os : Os) (started : os.Started) (H : Type) (enc : TypeId × Value → H) :
    ReturnsInHanded {} Try.checked os 5 .any (Rows.framePacketsSpec.pre6 enc Try.prog Try.f5 Rows.framePacketsRow.domain false) (Rows.framePacketsSpec.post enc Try.prog Try.f5 false true false false) := by
  refine returnsInHanded_of_change_sized (C := Try.checked) own started (by kernel_rfl) Try.func5
    (ChangeSpec.witness6 (enc := enc) (C := Try.checked) false ⟨#[], #[.int .i64 0, .slice none 0 0], []⟩ 8 (by kernel_rfl) (by kernel_rfl) (by kernel_rfl) (by kernel_rfl)) ?_
  intro W base args ds gs before hval0 hW hcnd hsz0 _
  have hsz : (DataW.weightsEach Try.prog (Try.f5.params.toList ++ Rows.framePacketsSpec.plain.varTypes Try.prog) (ds ++ gs)).all (· ≤ reachBytes) = true := hsz0
  have hval : ∀ (j : Nat) t v, Try.f5.params[j]? = some t → args[j]? = some v → Value.okWide Try.prog W .any base t v := hval0
  have hW' := hW
  obtain ⟨p, q, hA0, hV, rfl, hfz, hnd⟩ := hW
  have hA : DataW.TrodAll enc Try.prog W 0 (fun _ => true) true Try.f5.params.toList args.toList ds p := hA0
  rw [Try.params5] at hA hval hsz
  obtain ⟨v0, vs0, d0, ds0, p0, q0, hargs, rfl, rfl, h0, r0⟩ := trodAll_cons hA
  obtain ⟨v1, vs1, d1, ds1, p1, q1, rfl, rfl, rfl, h1, r1⟩ := trodAll_cons r0
  obtain ⟨rfl, rfl, rfl⟩ := trodAll_nil r1
  obtain rfl : args = #[v0, v1] := by cases args; simp_all
  obtain ⟨rfl, rfl⟩ := trodVars_none hV
  obtain ⟨x0, rfl, rfl, rfl, w0⟩ := open_int Try.underlying3 (hval 0 3 v0 rfl rfl) h0
  obtain ⟨a1, len1, cap1, rfl⟩ := okWide_slice Try.underlying24 (hval 1 24 v1 rfl rfl)
  have k1 := h1
  have lt1 : ∀ x ∈ p1, x.block < W.heap.size := by obtain ⟨m, hm⟩ := k1; exact DataW.trod_lt m _ _ _ hm
  obtain ⟨xs1, rfl, hcells1, hnil1, hdat1⟩ := open_bytes Try.underlying24 Try.underlying5 (by kernel_rfl) h1
  have hlen1 : xs1.length * 1 ≤ 140737488351232 := by
    rcases hdat1 with ⟨_, rfl⟩ | ⟨elems, spare, rfl, hle⟩
    · simp
    · have := sized_slice hsz (j := 1) (t := 24) (e := 5) rfl rfl Try.underlying24
      rw [bytes5] at this
      unfold reachBytes at this
      omega
  clear hA0 hval0
  refine (walk x0 a1 cap1 xs1 W hcells1 hnil1 (by omega)).mono fun e W' ⟨he, hg⟩ => ?_
  subst he
  have bel : Below W.heap.size W W' := (Below.refl _ _).grown hg (Nat.le_refl _) (by simp)
  exact ⟨_, rfl, _, _, _, [], _, [], hW', trodAll_mk1 (shut_bool Try.underlying4 _), (trodAll_cons_mk (shut_int Try.underlying3 w0) (trodAll_cons_mk (Below.trod laidOut (by kernel_rfl) (of_decide_eq_true (by kernel_rfl)) k1 bel lt1) trodAll_mk0)), rfl, bel.frame _, fun h => by cases h⟩

theorem over : Rows.FramePacketsSaid :=
  OpenClaim.holds_of_wide 5 Try.f5 rfl rfl rfl rfl rfl rfl rfl ⟨rfl, rfl, rfl, rfl, rfl⟩ rfl rfl rfl rfl rfl (by kernel_rfl) Try.func5 (by kernel_rfl)
    (of_decide_eq_true (by kernel_rfl)) (by unfold Func.isWrapper; first | (rw [if_pos (by decide +kernel)]; kernel_rfl) | (rw [if_neg (by decide +kernel)]; exact ⟨rfl, rfl⟩))
    (fun os started H enc _ => lifted os started H enc)

end framePackets

theorem framePackets_holds : Rows.FramePacketsSaid := framePackets.over
#print axioms framePackets_holds
end Go.Proofs.Ytjjccbegljkkfaa
