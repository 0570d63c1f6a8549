/-
  Package graph as landed: a machine at its beginning; a run through the blocks.
-/
import Derived.Test.YtencoknpocipbaaLotP19
import Derived.Test.YtencoknpocipbaaGrK
namespace Go.Proofs.Ytencoknpocipbaa
open Go.RowKit
set_option maxRecDepth 100000

def machA (b : Option Addr) (n cb d q : Nat) : Array Value := #[.int .u32 0, .int .u32 0, .int .u32 0, .int .u32 0, .int .u32 0, .int .u32 0, .int .u32 0, .int .u32 0, .int .u32 0, .int .u32 0, .int .u32 0, .int .u32 0, .int .u32 0, .int .u32 0, .int .u32 0, .int .u32 0, .int .u32 0, .int .u32 0, .slice b n cb, .int .i64 0, .slice (some ⟨d, 0, none⟩) 178 178, .slice (some ⟨q, 0, none⟩) 78 78]
def machZ : Array Value := #[.int .u32 0, .int .u32 0, .int .u32 0, .int .u32 0, .int .u32 0, .int .u32 0, .int .u32 0, .int .u32 0, .int .u32 0, .int .u32 0, .int .u32 0, .int .u32 0, .int .u32 0, .int .u32 0, .int .u32 0, .int .u32 0, .int .u32 0, .int .u32 0, .slice none 0 0, .int .i64 0, .slice none 0 0, .slice none 0 0]
theorem machA_all (b : Option Addr) (n cb d q : Nat) : (machA b n cb d q).all (·.oneCell') = true := by simp [machA, Value.oneCell']

theorem size66 : (Try.prog.info? 66).map (·.size) = some 22 := by kernel_rfl

set_option maxHeartbeats 1000000 in
theorem gover_any (b : Option Addr) (n cb : Nat) (w : World) :
    Calls Try.prog 25 #[.slice b n cb] w fun e w' => ∃ d q, e = .returned (.agg (machA b n cb d q)) ∧ DTab w' d ∧ QTab w' q ∧ w.heap.size ≤ d ∧ w.heap.size ≤ q ∧ w.grownBy w' none := by
  have V0 := GVt.alloc w 66 machZ
  have G0 : w.grownBy (w.alloc (.cells machZ 66)) none := World.grownBy_alloc _ _ _
  have HS : Hid (∀ d q, (Try.prog.info? 66).map (·.size) = some (machA b n cb d q).size) := fun _ _ => size66
  go_enter Try.func25, Try.ntmps25
  go_upto_region 1 with fail
  rw [show w.alloc (.cells #[.int .u32 0, .int .u32 0, .int .u32 0, .int .u32 0, .int .u32 0, .int .u32 0, .int .u32 0, .int .u32 0, .int .u32 0, .int .u32 0, .int .u32 0, .int .u32 0, .int .u32 0, .int .u32 0, .int .u32 0, .int .u32 0, .int .u32 0, .int .u32 0, .slice none 0 0, .int .i64 0, .slice none 0 0, .slice none 0 0] 66) = w.alloc (.cells machZ 66) from rfl]
  obtain ⟨A, hA⟩ : ∃ A, w.heap.size = A := ⟨_, rfl⟩
  rw [hA] at V0 ⊢
  have HA : Hid (w.heap.size ≤ A ∧ A < (w.alloc (.cells machZ 66)).heap.size) := ⟨by omega, V0.lt⟩
  clear hA
  generalize w.alloc (.cells machZ 66) = wa at *
  have HG0 : Hid (w.grownBy wa none) := G0
  have HV0 : Hid (GVt wa A 66 machZ) := V0
  clear G0 V0
  go_wp2_with fail
  refine (deeds_any _).mono ?_
  rintro e w1 ⟨d, rfl, T1, hd, K1⟩
  have HD : Hid (DTab w1 d ∧ wa.heap.size ≤ d ∧ wa.grownBy w1 none) := ⟨T1, hd, K1⟩
  clear T1 hd K1
  go_wp2_with fail
  refine (questions5_any _).mono ?_
  rintro e w2 ⟨q, rfl, T2, hq, K2⟩
  have HQ : Hid (QTab w2 q ∧ w1.heap.size ≤ q ∧ w1.grownBy w2 none) := ⟨T2, hq, K2⟩
  have V2 := (HV0.out.kept HD.out.2.2).kept K2
  clear T2 hq K2
  go_wp2_with (refine wpList_store_row rfl 66 (.tmp 2) (.tmp 6) rfl A (machA b n cb d q) rfl rfl 66 _ V2 (HS.out _ _) rfl (machA_all _ _ _ _ _) ?_)
  have VR := V2.setRow (machA b n cb d q)
  have KR : w2.grownBy (w2.setRow A (machA b n cb d q)) (some A) := gvgrown_setRow (World.grownBy.refl _ _) _ _ (.inl rfl)
  refine bodyPost_ret (results_cell_row rfl _ _ A _ (machA b n cb d q) (0, 0) _ rfl VR Try.underlying66 rfl (HS.out _ _)) rfl ?_
  have s1 := HD.out.2.2.size
  have s0 := HG0.out.size
  have a1 := HA.out.2
  have d1 := HD.out.2.1
  have q1 := HQ.out.2.1
  refine ⟨d, q, rfl, (HD.out.1.grown HQ.out.2.2 (by simp)).grown KR ?_, HQ.out.1.grown KR ?_, by omega, by omega, gvgrown_setRow (grown_trans HG0.out (grown_trans HD.out.2.2 HQ.out.2.2)) _ _ (.inr HA.out.1)⟩
  · intro e
    obtain rfl := Option.some.inj e
    omega
  · intro e
    obtain rfl := Option.some.inj e
    omega

theorem tab_lt {w : World} {d : Nat} (h : DTab w d) : d < w.heap.size := h.1.elim fun _ hc => hc.lt
theorem qtab_lt {w : World} {d : Nat} (h : QTab w d) : d < w.heap.size := h.1.elim fun _ hc => hc.lt

/-- One block more, or the end. -/
def Onward (w0 : World) (gs : List Bk) (pk : List UInt8) (g d q : Nat) (pb : Option Addr) (cb : Nat) (R : Rn) (k f s : Nat) (M : Mc) (n : Int) (w' : World) : Prop :=
  (n = 0 ∧ ∃ (R' : Rn) (v s' : Nat) (vf : Int), RAt w' g R' ∧ R'.rest = gRest true v vf s' ∧ addS s (goG gs pk (f + 1) k M) = (v, vf, s')) ∨
  (∃ (k' : Nat) (M' : Mc) (s' : Nat), n = (k' : Int) ∧ k < k' ∧ k' < gs.length ∧ GRun w0 w' g d q pb cb pk { R with M := M', rest := gRest false 0 0 s' } ∧ s' ≤ s + (gs.getD k bk0).code.length + 1 ∧ addS s' (goG gs pk f k' M') = addS s (goG gs pk (f + 1) k M))

set_option maxHeartbeats 2000000 in
theorem onward_any (xs : List Bv) (T : TakenG (gOf xs)) (k f s : Nat) (hk : k < xs.length) (a : Option Addr) (w0 w : World) (hG : GC w0 a xs) (g d q : Nat) (pb : Option Addr) (cb : Nat) (pk : List UInt8) (R : Rn) (L : GRun w0 w g d q pb cb pk R) (hR : R.rest = gRest false 0 0 s) (hs : s ≤ 500000) :
    Calls Try.prog 26 #[.pointer (some ⟨g, 0, none⟩), bkV xs[k].b xs[k].a xs[k].ca] w fun e w' => ∃ n : Int, e = .returned (.int .i64 n) ∧ Onward w0 (gOf xs) pk g d q pb cb R k f s R.M n w' ∧ w.grownBy w' (some g) := by
  have hk' : k < (gOf xs).length := by rw [gOf_len]; exact hk
  have hb : (gOf xs)[k] = xs[k].b := by simp [gOf]
  have hD : (gOf xs).getD k bk0 = xs[k].b := by rw [List.getD_eq_getElem?_getD, List.getElem?_eq_getElem hk', hb]; rfl
  obtain ⟨t1, t2, t3⟩ := T.ok k hk'
  have hlen : xs[k].b.code.length ≤ 4096 := by
    have h1 := codeLen_succ hk'
    have h2 := codeLen_take (gOf xs) (k + 1)
    have h3 := T.room
    rw [hb] at h1
    omega
  rw [hb] at t1 t2 t3
  have hok := hG.2 xs[k] (List.getElem_mem hk)
  obtain ⟨r, hr⟩ : ∃ r, codeF pk xs[k].b.code R.M = r := ⟨_, rfl⟩
  have hgo := goG_eq (f := f) (pk := pk) (M := R.M) hk' r (by rw [hb]; exact hr)
  rw [hb] at hgo
  have hr2 := codeF_le (pk := pk) xs[k].b.code R.M
  have hrM := codeF_ok (pk := pk) (by have := L.len; omega) xs[k].b.code R.M L.M
  rw [hr] at hr2 hrM
  have hnx := leads_next t2 t3
  rw [gOf_len] at hnx
  unfold Onward
  rw [hD, gOf_len]
  generalize xs[k] = x at *
  obtain ⟨b, xa, xc⟩ := x
  simp only at *
  refine (through_any b xa xc g d q pb cb pk R false 0 s w0 w L hR hs hok.1 hlen t1 r hr (fun W n w' => W.grownBy w' (some g) ∧
    ((n = 0 ∧ ∃ (R' : Rn) (v s' : Nat) (vf : Int), RAt w' g R' ∧ R'.rest = gRest true v vf s' ∧ addS s (goG (gOf xs) pk (f + 1) k R.M) = (v, vf, s')) ∨
     (∃ (k' : Nat) (M' : Mc) (s' : Nat), n = (k' : Int) ∧ k < k' ∧ k' < xs.length ∧ GRun w0 w' g d q pb cb pk { R with M := M', rest := gRest false 0 0 s' } ∧ s' ≤ s + b.code.length + 1 ∧ addS s' (goG (gOf xs) pk f k' M') = addS s (goG (gOf xs) pk (f + 1) k R.M)))) ?_).mono ?_
  · intro h0 W LW GW
    rcases ends_cases t2 with he | he | he
    · refine (leave_ret b xa xc g _ false 0 (s + r.2.2) 0 W LW.at' rfl (by omega) he).mono ?_
      rintro e w' ⟨rfl, r1, K⟩
      refine ⟨0, rfl, K, .inl ⟨rfl, _, _, _, _, r1, rfl, ?_⟩⟩
      rw [hgo, if_neg (by rw [h0]; simp), if_pos he]
      rfl
    · refine (leave_go b xa xc g W he).mono ?_
      rintro e w' ⟨rfl, K⟩
      have hy : nextL b = [b.yes.toNat] := by rw [nextL, if_neg (by omega), if_pos he]
      have hl := hnx b.yes.toNat (by rw [hy]; simp)
      have hyes : b.yes = (b.yes.toNat : Int) := by omega
      refine ⟨b.yes, rfl, grown_mono K, .inr ⟨b.yes.toNat, r.1, s + r.2.2, hyes, hl.1, hl.2, LW.kept K, by omega, ?_⟩⟩
      rw [hgo, if_neg (by rw [h0]; simp), if_neg (by omega), if_pos he, addS_addS]
    · have hj : usesJ b.last.code.toNat = true := by
        rw [gendsB, if_neg (by omega), if_neg (by omega), if_pos he, Bool.and_eq_true] at t2
        exact t2.1
      refine (leave_test b xa xc g q _ false 0 (s + r.2.2) 0 W LW.at' rfl (by omega) LW.hq LW.qt LW.qg LW.M he (uses_jump hj)).mono ?_
      rintro e w' ⟨rfl, r1, K⟩
      have hy : nextL b = [b.yes.toNat, b.no.toNat] := by rw [nextL, if_neg (by omega), if_neg (by omega)]
      have hl1 := hnx b.yes.toNat (by rw [hy]; simp)
      have hl2 := hnx b.no.toNat (by rw [hy]; simp)
      have hgo2 : goG (gOf xs) pk (f + 1) k R.M = addS (r.2.2 + 1) (goG (gOf xs) pk f (if asksV b.last r.1 = true then b.yes else b.no).toNat r.1) := by rw [hgo, if_neg (by rw [h0]; simp), if_neg (by omega), if_neg (by omega)]
      refine ⟨_, rfl, K, .inr ⟨(if asksV b.last r.1 = true then b.yes else b.no).toNat, r.1, s + r.2.2 + 1, ?_, ?_, ?_, LW.step r1 K rfl rfl rfl LW.f LW.M, by omega, ?_⟩⟩
      · show (if asksV b.last r.1 = true then b.yes else b.no) = _
        split <;> omega
      · split <;> omega
      · split <;> omega
      · rw [hgo2, addS_addS, Nat.add_assoc]
  · rintro e w' (⟨hne, rfl, ⟨M', f', r1⟩, K⟩ | ⟨h0, W, n, rfl, GW, KW, h⟩)
    · refine ⟨0, rfl, .inl ⟨rfl, _, _, _, _, r1, rfl, ?_⟩, K⟩
      rw [hgo, if_pos hne]
      rfl
    · exact ⟨n, rfl, h, grown_trans GW KW⟩

end Go.Proofs.Ytencoknpocipbaa
