/-
  Any limits, any calls over two clocks, one beside the other: each answer as the document's.
-/
import Derived.Test.YtnkdcehnamkoaaaClW
import Derived.Test.YtnkdcehnamkoaaaClO
import Derived.Deep.DeepCutAuto
namespace Go.Proofs.Ytnkdcehnamkoaaa
open Go.ChangeShapes Go.WideShapes Go.ChangeAt Go.RowKit
set_option maxRecDepth 100000
namespace clockPlays

/-- Two landed clocks, and the document's beside each. -/
structure Qua (W w : World) (gc gr gd gv : Nat) (c d : Ck) : Prop where
  c1 : QBk w gc 44 c.lcells
  c2 : QBk w gr 27 c.cells
  d1 : QBk w gd 44 d.lcells
  d2 : QBk w gv 27 d.cells
  ok : c.ok ∧ d.ok
  ne : gc ≠ gd ∧ gr ≠ gv
  lo : W.heap.size ≤ gc ∧ W.heap.size ≤ gr ∧ W.heap.size ≤ gd ∧ W.heap.size ≤ gv
  gr' : W.grownBy w none

theorem Qua.swap {W w : World} {gc gr gd gv : Nat} {c d : Ck} (h : Qua W w gc gr gd gv c d) : Qua W w gd gv gc gr d c := ⟨h.d1, h.d2, h.c1, h.c2, h.ok.symm, ⟨Ne.symm h.ne.1, Ne.symm h.ne.2⟩, ⟨h.lo.2.2.1, h.lo.2.2.2, h.lo.1, h.lo.2.1⟩, h.gr'⟩
theorem Qua.call {W w : World} {gc gr gd gv : Nat} {c d : Ck} (h : Qua W w gc gr gd gv c d) (act : Int) :
    Calls Try.prog 8 #[.pointer (some ⟨gc, 0, none⟩), .pointer (some ⟨gr, 0, none⟩), .int .i64 act] w fun e w' => e = .returned (.bool true) ∧ ∃ c', Qua W w' gc gr gd gv c' d := by
  refine (told22_any w gc gr c act h.c1 h.c2 h.ok.1).mono ?_
  rintro e w' ⟨rfl, c', ok, q1, q2, G⟩
  refine ⟨rfl, c', q1, q2, G.qbk h.d1 ?_, G.qbk h.d2 ?_, ⟨ok, h.ok.2⟩, h.ne, h.lo, ((GW.non (S := fun x => x = gc ∨ x = gr) h.gr').trans G (fun _ _ h => h)).grown (fun x hl hx => ?_)⟩
  · rintro (e | e)
    · exact h.ne.1 e.symm
    · exact QBk.tys h.d1 h.c2 (by decide) e
  · rintro (e | e)
    · exact QBk.tys h.c1 h.d2 (by decide) e.symm
    · exact h.ne.2 e.symm
  · have := h.lo.1
    have := h.lo.2.1
    rcases hx with hx | hx <;> omega

set_option maxHeartbeats 8000000 in
theorem walk (i m : Nat) (a2 : Option Addr) (cap2 : Nat) (zs : List Int) (W : World) (hi : i ≤ 4294967295) (hm : m ≤ 4294967295) (hc2 : CV W a2 (zs.map (Value.int .i64))) (_hn2 : a2 = none → cap2 = 0) (hl2 : zs.length * 8 ≤ 140737488351232) :
    Calls Try.prog 3 #[.int .u32 (i : Int), .int .u32 (m : Int), .slice a2 zs.length cap2] W fun e w' => e = .returned (.bool true) ∧ W.grownBy w' none := by
  have H2 : Hid (CV W a2 (zs.map iv)) := hc2
  have C := Cw.new W W i m (World.grownBy.refl _ _) hi hm
  have HO : Hid (i ≤ 4294967295 ∧ m ≤ 4294967295) := ⟨hi, hm⟩
  clear hc2 hi hm
  go_enter Try.func3, Try.ntmps3
  go_wp2_with fail
  refine C.mono ?_
  rintro e w1 ⟨gc, rfl, A, -, -⟩
  have H1 : Hid (Cw W w1 gc (Ck.new i m)) := A
  clear C A
  have C := Cw.new W w1 m i H1.out.gr HO.out.2 HO.out.1
  go_wp2_with fail
  refine C.mono ?_
  rintro e w2 ⟨gd, rfl, B, hg1, K1⟩
  have H3 : Hid (Cw W w2 gc (Ck.new i m) ∧ Cw W w2 gd (Ck.new m i) ∧ gc ≠ gd) := ⟨H1.out.kept K1, B, fun e => by have := H1.out.at'.lt; omega⟩
  clear C B hg1 K1 H1
  go_upto_region 3 with fail
  have HQ : Hid (Qua W ((w2.alloc (.cells (Ck.new i m).cells 27)).alloc (.cells (Ck.new m i).cells 27)) gc w2.heap.size gd (w2.heap.size + 1) (Ck.new i m) (Ck.new m i)) := by
    obtain ⟨A, B, hne⟩ := H3.out
    have K1 := World.grownBy_alloc w2 (.cells (Ck.new i m).cells 27) none
    have K2 := World.grownBy_alloc (w2.alloc (.cells (Ck.new i m).cells 27)) (.cells (Ck.new m i).cells 27) none
    have B1 := QBk.alloc w2 27 (Ck.new i m).cells
    have B2 := QBk.alloc (w2.alloc (.cells (Ck.new i m).cells 27)) 27 (Ck.new m i).cells
    have hs : (w2.alloc (.cells (Ck.new i m).cells 27)).heap.size = w2.heap.size + 1 := by simp
    rw [hs] at B2
    have K := grown_trans K1 K2
    have hW := A.gr.size
    exact ⟨(A.kept K).at', B1.keptNone K2, (B.kept K).at', B2, ⟨A.ok, B.ok⟩, ⟨hne, by omega⟩, ⟨A.lo, hW, B.lo, by omega⟩, grown_trans A.gr K⟩
  have HQ2 : Hid (∃ c d, Qua W ((w2.alloc (.cells (Ck.new i m).cells 27)).alloc (.cells (Ck.new m i).cells 27)) gc w2.heap.size gd (w2.heap.size + 1) c d) := ⟨_, _, HQ.out⟩
  clear H3 HQ
  simp only [Ck.cells, Ck.new] at HQ2
  go_upto_region 6 with fail
  revert HQ2
  generalize (w2.alloc (.cells #[.int .u32 (i : Int), .int .u32 (m : Int), .bool false, .int .u32 0, .int .u32 0] 27)).alloc (.cells #[.int .u32 (m : Int), .int .u32 (i : Int), .bool false, .int .u32 0, .int .u32 0] 27) = w3
  intro HQ2
  generalize w2.heap.size + 1 = gv at *
  generalize w2.heap.size = gr at *
  go_loopw [11] (fun i' wr => ∃ k : Nat, k ≤ zs.length ∧ i' = .int .i64 k ∧ ∃ c d, Qua W wr gc gr gd gv c d) (fun i' _ => zs.length - (intOf i').toNat)
  case atStart => exact ⟨0, Nat.zero_le _, rfl, HQ2.out⟩
  case round =>
    clear HQ2
    obtain ⟨k, hk, rfl, c, d, A⟩ := hrel
    by_cases hlt : k < zs.length
    · obtain ⟨b, o, rfl, hc⟩ := H2.out.ints hlt
      have hli : (k : Int) < (zs.length : Int) := by omega
      have HZ : Hid (W.cell? ⟨b, o + k, none⟩ = some (.int .i64 zs[k])) := hc k hlt
      clear hc
      generalize zs[k] = z at *
      have c0 := A.gr'.cell HZ.out (by simp)
      have C := A.call z
      clear A
      go_wp2_with fail
      refine C.mono ?_
      rintro e w4 ⟨rfl, c', A⟩
      clear C c0
      by_cases hm2 : k % 2 = 1
      · have hm1 : ((k : Int) % 2 == 1) = true := by rw [beq_iff_eq]; omega
        have c0 := A.gr'.cell HZ.out (by simp)
        have C := A.swap.call z
        clear A hm2
        go_wp2_with fail
        refine C.mono ?_
        rintro e w5 ⟨rfl, d', A⟩
        have HA : Hid (∃ c d, Qua W w5 gc gr gd gv c d) := ⟨c', d', A.swap⟩
        clear C A c0
        go_wp2
        go_roundw
        case rel => exact ⟨k + 1, by omega, by go_num, HA.out⟩
        case measure => simp [intOf]; omega
      · have hm1 : ((k : Int) % 2 == 1) = false := by rw [beq_eq_false_iff_ne]; omega
        have HA : Hid (∃ c d, Qua W w4 gc gr gd gv c d) := ⟨c', d, A⟩
        clear A hm2
        go_wp2
        go_roundw
        case rel => exact ⟨k + 1, by omega, by go_num, HA.out⟩
        case measure => simp [intOf]; omega
    · obtain rfl : k = zs.length := by omega
      have HK : Hid (W.grownBy wr none) := A.gr'
      clear A
      go_wp2_with fail
      refine (awake22_any wr).mono ?_
      rintro e w9 ⟨rfl, K⟩
      have HK2 : Hid (W.grownBy w9 none) := grown_trans HK.out K
      clear HK K
      go_wp2
      go_ret
      exact ⟨rfl, HK2.out⟩

set_option maxRecDepth 100000 in
theorem lifted (os : Os) (started : os.Started) (H : Type) (enc : TypeId × Value → H) :
    ReturnsInHanded {} Try.checked os 3 .any (Rows.clockPlaysSpec.pre6 enc Try.prog Try.f3 Rows.clockPlaysRow.domain false) (Rows.clockPlaysSpec.post enc Try.prog Try.f3 false true false false) := by
  refine returnsInHanded_of_change_sized (C := Try.checked) own started (by kernel_rfl) Try.func3
    (ChangeSpec.witness6 (enc := enc) (C := Try.checked) false ⟨#[], #[.int .u32 0, .int .u32 0, .slice none 0 0], []⟩ 8 (by kernel_rfl) (by kernel_rfl) (by kernel_rfl) (by kernel_rfl)) ?_
  intro W base args ds gs before hval0 hW hcnd hsz0 _
  have hsz : (DataW.weightsEach Try.prog (Try.f3.params.toList ++ Rows.clockPlaysSpec.plain.varTypes Try.prog) (ds ++ gs)).all (· ≤ reachBytes) = true := hsz0
  have hval : ∀ (j : Nat) t v, Try.f3.params[j]? = some t → args[j]? = some v → Value.okWide Try.prog W .any base t v := hval0
  have hW' := hW
  obtain ⟨p, q, hA0, hV, rfl, hfz, hnd⟩ := hW
  have hA : DataW.TrodAll enc Try.prog W 0 (fun _ => true) true Try.f3.params.toList args.toList ds p := hA0
  rw [Try.params3] at hA hval hsz
  obtain ⟨v0, vs0, d0, ds0, p0, q0, hargs, rfl, rfl, h0, r0⟩ := trodAll_cons hA
  obtain ⟨v1, vs1, d1, ds1, p1, q1, rfl, rfl, rfl, h1, r1⟩ := trodAll_cons r0
  obtain ⟨v2, vs2, d2, ds2, p2, q2, rfl, rfl, rfl, h2, r2⟩ := trodAll_cons r1
  obtain ⟨rfl, rfl, rfl⟩ := trodAll_nil r2
  obtain rfl : args = #[v0, v1, v2] := by cases args; simp_all
  obtain ⟨rfl, rfl⟩ := trodVars_none hV
  obtain ⟨y0, rfl, rfl, rfl, w0⟩ := open_int Try.underlying22 (hval 0 22 v0 rfl rfl) h0
  have bd0 := bounds_u32 w0
  obtain ⟨x0, rfl⟩ := Int.eq_ofNat_of_zero_le bd0.1
  have hv0 : x0 ≤ 4294967295 := by omega
  obtain ⟨y1, rfl, rfl, rfl, w1⟩ := open_int Try.underlying22 (hval 1 22 v1 rfl rfl) h1
  have bd1 := bounds_u32 w1
  obtain ⟨x1, rfl⟩ := Int.eq_ofNat_of_zero_le bd1.1
  have hv1 : x1 ≤ 4294967295 := by omega
  obtain ⟨a2, len2, cap2, rfl⟩ := okWide_slice Try.underlying23 (hval 2 23 v2 rfl rfl)
  have k2 := h2
  have lt2 : ∀ x ∈ p2, x.block < W.heap.size := by obtain ⟨m, hm⟩ := k2; exact DataW.trod_lt m _ _ _ hm
  obtain ⟨zs2, rfl, hcv2, hnil2, hdat2⟩ := open_intl Try.underlying23 Try.underlying3 (by kernel_rfl) h2
  have hlen2 : zs2.length * 8 ≤ 140737488351232 := by
    rcases hdat2 with ⟨_, rfl⟩ | ⟨elems, spare, rfl, hle⟩
    · simp
    · have := sized_slice hsz (j := 2) (t := 23) (e := 3) rfl rfl Try.underlying23
      rw [bytes3] at this
      unfold reachBytes at this
      omega
  clear hA0 hval0
  refine (walk x0 x1 a2 cap2 zs2 W hv0 hv1 hcv2 hnil2 hlen2).mono fun e W' ⟨he, hg⟩ => ?_
  subst he
  have bel : Below W.heap.size W W' := (Below.refl _ _).grown hg (Nat.le_refl _) (by simp)
  exact ⟨_, rfl, _, _, _, [], _, [], hW', trodAll_mk1 (shut_bool Try.underlying4 _), (trodAll_cons_mk (shut_int Try.underlying22 w0) (trodAll_cons_mk (shut_int Try.underlying22 w1) (trodAll_cons_mk (Below.trod laidOut (by kernel_rfl) (of_decide_eq_true (by kernel_rfl)) k2 bel lt2) trodAll_mk0))), rfl, bel.frame _, fun h => by cases h⟩

theorem over : Rows.ClockPlaysSaid :=
  OpenClaim.holds_of_wide 3 Try.f3 rfl rfl rfl rfl rfl rfl rfl ⟨rfl, rfl, rfl, rfl, rfl⟩ rfl rfl rfl rfl rfl (by kernel_rfl) Try.func3 (by kernel_rfl)
    (of_decide_eq_true (by kernel_rfl)) (by unfold Func.isWrapper; first | (rw [if_pos (by decide +kernel)]; kernel_rfl) | (rw [if_neg (by decide +kernel)]; exact ⟨rfl, rfl⟩))
    (fun os started H enc _ => lifted os started H enc)

end clockPlays

theorem clockPlays_holds : Rows.ClockPlaysSaid := clockPlays.over
#print axioms clockPlays_holds

end Go.Proofs.Ytnkdcehnamkoaaa
