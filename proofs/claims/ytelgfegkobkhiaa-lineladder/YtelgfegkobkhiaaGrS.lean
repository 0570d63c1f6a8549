/-
  The document's own Takes and Run of a graph.
-/
import Derived.Test.YtelgfegkobkhiaaLotP36
import Derived.Test.YtelgfegkobkhiaaGrKp
namespace Go.Proofs.Ytelgfegkobkhiaa
open Go.RowKit
set_option maxRecDepth 100000

theorem reftakes_any (a : Option Addr) (ca : Nat) (xs : List Bv) (w : World) (ha : GC w a xs) (hlen : ∀ x ∈ xs, x.b.code.length ≤ 4611686018427387904) :
    Calls Try.prog 20 #[.slice a xs.length ca] w fun e w' => e = .returned (.bool (takenB (gOf xs))) ∧ w.grownBy w' none := by
  have C := refgcheck_any a ca xs w ha hlen
  have HT : Hid (takenB (gOf xs) = ((gckG (gOf xs)).2 == 0)) := (rfl : takenB (gOf xs) = ((gckG (gOf xs)).2 == 0))
  generalize gckG (gOf xs) = ck at *
  obtain ⟨p, q⟩ := ck
  simp only at C HT
  go_enter Try.func20, Try.ntmps20
  go_wp2_with fail
  refine C.mono ?_
  rintro e w1 ⟨rfl, K⟩
  go_wp2
  go_ret
  exact ⟨ret_bool HT.out.symm, K⟩

theorem give_ret {x : In} (M : Mc) (h : (classV x.code.toNat == 6) = true) : giveV x M = if ((x.code.toNat : Int) == 6) = true then x.k.toNat else M.a := by
  rw [class6_ret] at h
  simp only [retB, Bool.or_eq_true, beq_iff_eq] at h
  rw [giveV]
  rcases h with h | h
  · rw [h]
    rfl
  · rw [h]
    rfl

/-- What lies in memory while the document's own run goes on. -/
structure GsI (w wr : World) (V g : Nat) (M : Mc) : Prop where
  ver : GVt wr V 61 #[.int .u32 0, .int .i64 0, .int .i64 0]
  mach : MAt wr 84 w.heap.size g M
  up : w.grownBy wr none
  ne : V ≠ g
  ok : M.ok

theorem GsI.kept {w wr w' : World} {V g : Nat} {M : Mc} (I : GsI w wr V g M) (K : wr.grownBy w' none) : GsI w w' V g M :=
  ⟨I.ver.kept K, I.mach.kept K (by simp), grown_trans I.up K, I.ne, I.ok⟩
theorem GsI.stepped {w wr w' : World} {V g : Nat} {M M2 : Mc} (I : GsI w wr V g M) (h : MAt w' 84 w.heap.size g M2) (K : wr.grownBy w' (some g)) (h2 : M2.ok) : GsI w w' V g M2 :=
  ⟨I.ver.grown K (by simpa using Ne.symm I.ne), h, grown_trans_new I.up K (fun x e => by cases e; exact I.mach.lt.1), I.ne, h2⟩

set_option maxHeartbeats 8000000 in
theorem refgrun_any (a pb : Option Addr) (ca cb : Nat) (xs : List Bv) (pk : List UInt8) (w : World) (ha : GC w a xs) (hlen : ∀ x ∈ xs, x.b.code.length ≤ 4611686018427387904) (hb : Cells w pb pk) (hpl : pk.length ≤ 9223372036854775807) :
    Calls Try.prog 32 #[.slice a xs.length ca, .slice pb pk.length cb] w fun e w' => GEnd w (runG (gOf xs) pk) (runGE (gOf xs) pk) e w' := by
  have CT := fun W (G : w.grownBy W none) => reftakes_any a ca xs W (ha.keptNone G) hlen
  have H : Hid (GC w a xs) := ha
  have HP : Hid (Cells w pb pk) := hb
  have V0 := GVt.alloc w 61 #[.int .u32 0, .int .i64 0, .int .i64 0]
  have G0 : w.grownBy (w.alloc (.cells #[.int .u32 0, .int .i64 0, .int .i64 0] 61)) none := World.grownBy_alloc _ _ _
  have hsz : w.heap.size < (w.alloc (.cells #[.int .u32 0, .int .i64 0, .int .i64 0] 61)).heap.size := by simp
  clear ha hb
  cases ht : takenB (gOf xs) with
  | false =>
    rw [ht] at CT
    have e1 : runGE (gOf xs) pk = 155 := by rw [runGE, if_neg (by rw [← takenB_iff, ht]; simp)]
    have e2 : runG (gOf xs) pk = (0, 0, 0) := by rw [runG, e1]; rfl
    rw [e1, e2]
    clear e1 e2
    go_enter Try.func32, Try.ntmps32
    go_upto_region 1 with fail
    generalize w.alloc (.cells #[.int .u32 0, .int .i64 0, .int .i64 0] 61) = wa at *
    obtain ⟨V, hV⟩ : ∃ V, w.heap.size = V := ⟨_, rfl⟩
    have HV : Hid (w.heap.size ≤ V) := Nat.le_of_eq hV
    rw [hV] at V0 ⊢
    clear hV
    go_wp2_with fail
    refine (CT _ G0).mono ?_
    rintro e w1 ⟨rfl, K⟩
    have V1 := V0.kept K
    have G1 := grown_trans G0 K
    clear K V0 G0 CT
    go_wp2_with (refine wpList_store_row rfl 61 (.tmp 4) (.tmp 15) rfl V #[.int .u32 0, .int .i64 0, .int .i64 0] rfl rfl 61 _ V1 size61 rfl (by simp [Value.oneCell']) ?_)
    refine bodyPost_ret (vret_row rfl _ _ V #[.int .u32 0, .int .i64 0, .int .i64 0] _ rfl (V1.setRow _) Try.underlying61 rfl size61) rfl ?_
    exact ⟨rfl, gvgrown_setRow G1 _ _ (.inr HV.out)⟩
  | true =>
    rw [ht] at CT
    have htk := takenB_iff.1 ht
    by_cases hl : 65536 < pk.length
    · have e1 : runGE (gOf xs) pk = 51 := by rw [runGE, if_pos htk, if_pos hl]
      have e2 : runG (gOf xs) pk = (0, 0, 0) := by rw [runG, e1]; rfl
      rw [e1, e2]
      have hl' : (65536 : Int) < (pk.length : Int) := by omega
      clear e1 e2 htk ht
      go_enter Try.func32, Try.ntmps32
      go_upto_region 1 with fail
      generalize w.alloc (.cells #[.int .u32 0, .int .i64 0, .int .i64 0] 61) = wa at *
      obtain ⟨V, hV⟩ : ∃ V, w.heap.size = V := ⟨_, rfl⟩
      have HV : Hid (w.heap.size ≤ V) := Nat.le_of_eq hV
      rw [hV] at V0 ⊢
      clear hV
      go_wp2_with fail
      refine (CT _ G0).mono ?_
      rintro e w1 ⟨rfl, K⟩
      have V1 := V0.kept K
      have G1 := grown_trans G0 K
      clear K V0 G0 CT
      go_wp2_with (refine wpList_store_row rfl 61 (.tmp 4) (.tmp 19) rfl V #[.int .u32 0, .int .i64 0, .int .i64 0] rfl rfl 61 _ V1 size61 rfl (by simp [Value.oneCell']) ?_)
      refine bodyPost_ret (vret_row rfl _ _ V #[.int .u32 0, .int .i64 0, .int .i64 0] _ rfl (V1.setRow _) Try.underlying61 rfl size61) rfl ?_
      exact ⟨rfl, gvgrown_setRow G1 _ _ (.inr HV.out)⟩
    · have e1 : runGE (gOf xs) pk = 0 := by rw [runGE, if_pos htk, if_neg hl]
      have e2 : runG (gOf xs) pk = goG (gOf xs) pk xs.length 0 mc0 := by rw [runG, if_pos e1, gOf_len]
      have hl' : ¬ (65536 : Int) < (pk.length : Int) := by omega
      have hpk : pk.length ≤ 65536 := by omega
      have hT := taken_g htk
      have HT : Hid (TakenG (gOf xs)) := hT
      have hn0 : 0 < xs.length := by have := hT.pos; rwa [gOf_len] at this
      have hn1 : xs.length ≤ 4096 := by have := hT.few; rwa [gOf_len] at this
      rw [e1]
      obtain ⟨Res, hRes⟩ : ∃ r, runG (gOf xs) pk = r := ⟨_, rfl⟩
      rw [hRes]
      have HRes : Hid (goG (gOf xs) pk xs.length 0 mc0 = Res) := e2.symm.trans hRes
      clear e1 e2 htk ht hRes hT
      go_enter Try.func32, Try.ntmps32
      go_upto_region 1 with fail
      generalize w.alloc (.cells #[.int .u32 0, .int .i64 0, .int .i64 0] 61) = wa at *
      obtain ⟨V, hV⟩ : ∃ V, w.heap.size = V := ⟨_, rfl⟩
      have HV : Hid (w.heap.size ≤ V) := Nat.le_of_eq hV
      rw [hV] at V0 hsz ⊢
      clear hV
      go_wp2_with fail
      refine (CT _ G0).mono ?_
      rintro e w1 ⟨rfl, K⟩
      have V1 := V0.kept K
      have G1 := grown_trans G0 K
      have hV1 : V < w1.heap.size := Nat.lt_of_lt_of_le hsz K.size
      clear K V0 G0 CT hsz
      have KM : w1.grownBy (w1.alloc (.cells #[.int .u32 0, .int .u32 0, .int .u32 0, .int .u32 0, .int .u32 0, .int .u32 0, .int .u32 0, .int .u32 0, .int .u32 0, .int .u32 0, .int .u32 0, .int .u32 0, .int .u32 0, .int .u32 0, .int .u32 0, .int .u32 0, .int .u32 0, .int .u32 0] 84)) none := World.grownBy_alloc _ _ _
      have HI : Hid (GsI w (w1.alloc (.cells #[.int .u32 0, .int .u32 0, .int .u32 0, .int .u32 0, .int .u32 0, .int .u32 0, .int .u32 0, .int .u32 0, .int .u32 0, .int .u32 0, .int .u32 0, .int .u32 0, .int .u32 0, .int .u32 0, .int .u32 0, .int .u32 0, .int .u32 0, .int .u32 0] 84)) V w1.heap.size mc0) :=
        ⟨V1.kept KM, mat_new w1 _ _ G1.size, grown_trans G1 KM, by omega, mc0_ok⟩
      clear KM V1 G1 hV1
      go_upto_region 6 with fail
      generalize w1.alloc (.cells #[.int .u32 0, .int .u32 0, .int .u32 0, .int .u32 0, .int .u32 0, .int .u32 0, .int .u32 0, .int .u32 0, .int .u32 0, .int .u32 0, .int .u32 0, .int .u32 0, .int .u32 0, .int .u32 0, .int .u32 0, .int .u32 0, .int .u32 0, .int .u32 0] 84) = w2 at *
      generalize w1.heap.size = g at *
      go_wp2
      go_loopw [7, 8] (fun sl i wr => ∃ (k f s : Nat) (M : Mc), sl = .int .i64 (s : Int) ∧ i = .int .i64 (k : Int) ∧ k < xs.length ∧ s ≤ codeLen ((gOf xs).take k) + k ∧ xs.length ≤ f + k ∧ Hid (GsI w wr V g M) ∧ Hid (addS s (goG (gOf xs) pk f k M) = Res)) (fun _ i _ => xs.length - (intOf i).toNat)
      case atStart =>
        refine ⟨0, xs.length, 0, mc0, rfl, rfl, hn0, Nat.zero_le _, by omega, HI, ?_⟩
        show addS 0 (goG (gOf xs) pk xs.length 0 mc0) = Res
        rw [HRes.out]
        simp [addS]
      case round =>
        clear HI HRes
        obtain ⟨k, f, s, M, rfl, rfl, hk, hs, hf, HI, HGo⟩ := hrel
        obtain ⟨f, rfl⟩ : ∃ m, f = m + 1 := ⟨f - 1, by omega⟩
        have hl2 : (k : Int) < (xs.length : Int) := by omega
        have hk' : k < (gOf xs).length := by rw [gOf_len]; exact hk
        have hb : (gOf xs)[k] = xs[k].b := by simp [gOf]
        have hcl : codeLen ((gOf xs).take k) ≤ 4096 := Nat.le_trans (codeLen_take _ _) HT.out.room
        have hcs : codeLen ((gOf xs).take (k + 1)) = codeLen ((gOf xs).take k) + xs[k].b.code.length := by rw [codeLen_succ hk', hb]
        have hc2 : codeLen ((gOf xs).take (k + 1)) ≤ 4096 := Nat.le_trans (codeLen_take _ _) HT.out.room
        have hcd : xs[k].b.code.length ≤ 4096 := by omega
        have HCS : Hid (codeLen ((gOf xs).take (k + 1)) = codeLen ((gOf xs).take k) + xs[k].b.code.length) := hcs
        obtain ⟨t1, t2, t3⟩ := HT.out.ok k hk'
        rw [hb] at t1 t2 t3
        have hnx := leads_next t2 t3
        rw [gOf_len] at hnx
        have hok := (H.out.keptNone HI.out.up).2 xs[k] (List.getElem_mem hk)
        obtain ⟨r, hr⟩ : ∃ r, codeF pk xs[k].b.code M = r := ⟨_, rfl⟩
        have hgo := goG_eq (f := f) (pk := pk) (M := M) hk' r (by rw [hb]; exact hr)
        rw [hb] at hgo
        rw [hgo] at HGo
        obtain ⟨b1, o1, rfl, h1⟩ := ((H.out.keptNone HI.out.up).1).blocks hk
        have h1' := h1 k hk
        clear h1
        have hcw := H.out.2 xs[k] (List.getElem_mem hk)
        clear hgo hcs hc2 hb
        generalize xs[k] = x at *
        obtain ⟨⟨code, en, ⟨ic, it, jf, ik⟩, yes, no⟩, xa, xc⟩ := x
        have c0 := h1' 0 _ rfl
        have c1 := h1' 1 _ rfl
        have c2 := h1' 2 _ rfl
        have c3 := h1' 3 _ rfl
        have c4 := h1' 4 _ rfl
        have c5 := h1' 5 _ rfl
        have c6 := h1' 6 _ rfl
        have c7 := h1' 7 _ rfl
        clear h1'
        rw [Nat.add_zero] at c0
        simp only at *
        have HE : Hid (gendsB ⟨code, en, ⟨ic, it, jf, ik⟩, yes, no⟩ = true) := t2
        have HN : Hid (∀ j ∈ nextL ⟨code, en, ⟨ic, it, jf, ik⟩, yes, no⟩, k < j ∧ j < xs.length) := hnx
        have HX : Hid (codeF pk code M = r) := hr
        have HC : Hid (CV w xa (flat code)) := hcw.1
        have hrl := codeF_le (pk := pk) code M
        have hrM := codeF_ok (pk := pk) (by omega) code M HI.out.ok
        rw [hr] at hrl hrM
        have ends := ends_cases t2
        simp only at ends
        have KB : wr.grownBy (wr.alloc (.cells #[.slice xa code.length xc, .int .i64 en, .int .u16 (ic.toNat : Int), .int .u8 (it.toNat : Int), .int .u8 (jf.toNat : Int), .int .u32 (ik.toNat : Int), .int .i64 yes, .int .i64 no] 47)) none := World.grownBy_alloc _ _ _
        have HVB : Hid (GVt (wr.alloc (.cells #[.slice xa code.length xc, .int .i64 en, .int .u16 (ic.toNat : Int), .int .u8 (it.toNat : Int), .int .u8 (jf.toNat : Int), .int .u32 (ik.toNat : Int), .int .i64 yes, .int .i64 no] 47)) wr.heap.size 47 #[.slice xa code.length xc, .int .i64 en, .int .u16 (ic.toNat : Int), .int .u8 (it.toNat : Int), .int .u8 (jf.toNat : Int), .int .u32 (ik.toNat : Int), .int .i64 yes, .int .i64 no]) := GVt.alloc wr _ _
        have HBg : Hid (wr.heap.size ≠ g) := Nat.ne_of_gt HI.out.mach.lt.2
        have HI2 := HI.out.kept KB
        have hs2 : s ≤ 8192 := by omega
        clear t1 t2 t3 hnx hr hcw hok KB HI
        go_upto_region 9 with fail
        generalize wr.alloc (.cells #[.slice xa code.length xc, .int .i64 en, .int .u16 (ic.toNat : Int), .int .u8 (it.toNat : Int), .int .u8 (jf.toNat : Int), .int .u32 (ik.toNat : Int), .int .i64 yes, .int .i64 no] 47) = w3 at *
        generalize wr.heap.size = B at *
        clear c0 c1 c2 c3 c4 c5 c6 c7
        go_wp2
        go_loopw [7, 10] (fun sl i wr => ∃ (j : Nat) (M' : Mc), sl = .int .i64 ((s + j : Nat) : Int) ∧ i = .int .i64 (j : Int) ∧ j ≤ code.length ∧ Hid (GsI w wr V g M') ∧ Hid (GVt wr B 47 #[.slice xa code.length xc, .int .i64 en, .int .u16 (ic.toNat : Int), .int .u8 (it.toNat : Int), .int .u8 (jf.toNat : Int), .int .u32 (ik.toNat : Int), .int .i64 yes, .int .i64 no]) ∧ Hid (addC j (codeF pk (code.drop j) M') = r)) (fun _ i _ => code.length - (intOf i).toNat)
        case atStart =>
          refine ⟨0, M, rfl, rfl, Nat.zero_le _, HI2, HVB, ?_⟩
          show addC 0 (codeF pk (code.drop 0) M) = r
          rw [List.drop_zero, HX.out]
          simp [addC]
        case round =>
          clear HI2 HVB HX
          obtain ⟨j, M', rfl, rfl, hj, HI, HVB, HX⟩ := hrel
          obtain ⟨sj, hsj⟩ : ∃ sj, s + j = sj := ⟨_, rfl⟩
          have hsj2 : sj ≤ 20000 := by omega
          have HSJ : Hid (s + j = sj) := hsj
          rw [hsj]
          clear hsj
          have a0 : wr.cell? ⟨B, 0, none⟩ = some (.slice xa code.length xc) := HVB.out.cell 0
          by_cases hlt : j < code.length
          · have hl3 : (j : Int) < (code.length : Int) := by omega
            have hX := HX.out
            rw [codeF_step hlt] at hX
            obtain ⟨ba, oa, hae, hc⟩ := (HC.out.keptNone HI.out.up).insns hlt
            obtain ⟨c0, c1, c2, c3⟩ := hc j hlt
            have b3 := code[j].k.toNat_lt
            have hM2 : (stepV code[j].code.toNat code[j].k.toNat pk M').1.ok := stepV_ok HI.out.ok (by omega) (by omega)
            have HS := refstep_any pb cb pk g w.heap.size M' code[j].code.toNat code[j].jt.toNat code[j].jf.toNat code[j].k.toNat wr HI.out.mach (by omega) (HP.out.keptNone HI.out.up) hpk HI.out.ok
            generalize stepV code[j].code.toNat code[j].k.toNat pk M' = sv at *
            obtain ⟨M2, fl⟩ := sv
            simp only at HS hM2 hX
            have HX2 : Hid (addC j (if fl = 0 then addC 1 (codeF pk (code.drop (j + 1)) M2) else (M2, fl, 1)) = r) := hX
            generalize code[j] = x at *
            have HSS : Hid (Calls Try.prog 43 #[.pointer (some ⟨g, 0, none⟩), .agg #[.int .u16 (x.code.toNat : Int), .int .u8 (x.jt.toNat : Int), .int .u8 (x.jf.toNat : Int), .int .u32 (x.k.toNat : Int)], .slice pb pk.length cb] wr fun e w' => StepPost wr 84 w.heap.size g M2 fl e w') := HS
            subst hae
            clear HS hX HX hc
            go_wp2_with fail
            refine HSS.out.mono ?_
            rintro e w6 ⟨rfl, MA6, K6⟩
            have HI6 : Hid (GsI w w6 V g M2) := HI.out.stepped MA6 K6 hM2
            have HV6 : Hid (GVt w6 B 47 #[.slice (some ⟨ba, oa, none⟩) code.length xc, .int .i64 en, .int .u16 (ic.toNat : Int), .int .u8 (it.toNat : Int), .int .u8 (jf.toNat : Int), .int .u32 (ik.toNat : Int), .int .i64 yes, .int .i64 no]) := HVB.out.grown K6 (by simpa using Ne.symm HBg.out)
            clear c0 c1 c2 c3 K6 MA6 HI HVB HSS a0
            by_cases hfl : fl = 0
            · subst hfl
              have hX := HX2.out
              rw [if_pos rfl] at hX
              have HX3 : Hid (addC (j + 1) (codeF pk (code.drop (j + 1)) M2) = r) := by
                show _ = _
                rw [← hX]
                simp only [addC, Nat.add_assoc]
              clear hX HX2
              go_wp2
              go_roundw
              case rel => exact ⟨j + 1, M2, by have := HSJ.out; go_num, by go_num, by omega, HI6, HV6, HX3⟩
              case measure => simp [intOf]; omega
            · have hflb : (fl != 0) = true := by rw [bne_iff_ne]; exact hfl
              have hX := HX2.out
              rw [if_neg hfl] at hX
              have HR : Hid (Res = (0, fl, sj + 1)) := by
                show _ = _
                rw [← HGo.out, if_pos (show r.2.1 ≠ 0 by rw [← hX]; exact hfl), ← hX, ← HSJ.out]
                simp only [addC, addS, Nat.add_assoc]
              clear hX HX2
              go_wp2_with (refine wpList_store_row rfl 61 (.tmp 4) (.tmp 44) rfl V #[.int .u32 0, .int .i64 fl, .int .i64 ((sj : Int) + 1)] rfl rfl 61 _ HI6.out.ver size61 rfl (by simp [Value.oneCell']) ?_)
              refine bodyPost_ret (vret_row rfl _ _ V #[.int .u32 0, .int .i64 fl, .int .i64 ((sj : Int) + 1)] _ rfl (GVt.setRow HI6.out.ver _) Try.underlying61 rfl size61) rfl ?_
              rw [HR.out]
              exact ⟨rfl, gvgrown_setRow HI6.out.up _ _ (.inr HV.out)⟩
          · have hl3 : ¬ (j : Int) < (code.length : Int) := by omega
            have hX := HX.out
            rw [codeF_over hlt] at hX
            have hr0 : r = (M', 0, j) := by rw [← hX]; simp [addC]
            subst hr0
            simp only at HGo hrM hrl
            clear hX HX
            have a1 : wr.cell? ⟨B, 1, none⟩ = some (.int .i64 en) := HVB.out.cell 1
            have a2 : wr.cell? ⟨B, 2, none⟩ = some (.int .u16 (ic.toNat : Int)) := HVB.out.cell 2
            have a3 : wr.cell? ⟨B, 3, none⟩ = some (.int .u8 (it.toNat : Int)) := HVB.out.cell 3
            have a4 : wr.cell? ⟨B, 4, none⟩ = some (.int .u8 (jf.toNat : Int)) := HVB.out.cell 4
            have a5 : wr.cell? ⟨B, 5, none⟩ = some (.int .u32 (ik.toNat : Int)) := HVB.out.cell 5
            have a6 : wr.cell? ⟨B, 6, none⟩ = some (.int .i64 yes) := HVB.out.cell 6
            have a7 : wr.cell? ⟨B, 7, none⟩ = some (.int .i64 no) := HVB.out.cell 7
            have m0 := HI.out.mach.a
            have m1 := HI.out.mach.x
            rcases ends with rfl | rfl | rfl
            · have hcl6 : (classV ic.toNat == 6) = true := by
                have h := HE.out
                simp only [gendsB, if_true, Bool.and_eq_true] at h
                exact h.1.1
              have hgv := give_ret (x := ⟨ic, it, jf, ik⟩) M' hcl6
              simp only at hgv
              cases h6 : ((ic.toNat : Int) == 6) with
              | true =>
                have HR : Hid (Res = (ik.toNat, 0, sj + 1)) := by
                  show _ = _
                  rw [← HGo.out, hgv, h6, ← HSJ.out]
                  simp only [addS, Nat.add_assoc, ne_eq, not_true, if_true, if_false]
                clear hcl6 hgv
                go_wp2_with (refine wpList_store_row rfl 61 (.tmp 4) (.tmp 66) rfl V #[.int .u32 (ik.toNat : Int), .int .i64 0, .int .i64 ((sj : Int) + 1)] rfl rfl 61 _ HI.out.ver size61 rfl (by simp [Value.oneCell']) ?_)
                refine bodyPost_ret (vret_row rfl _ _ V #[.int .u32 (ik.toNat : Int), .int .i64 0, .int .i64 ((sj : Int) + 1)] _ rfl (GVt.setRow HI.out.ver _) Try.underlying61 rfl size61) rfl ?_
                rw [HR.out]
                exact ⟨rfl, gvgrown_setRow HI.out.up _ _ (.inr HV.out)⟩
              | false =>
                have HR : Hid (Res = (M'.a, 0, sj + 1)) := by
                  show _ = _
                  rw [← HGo.out, hgv, h6, ← HSJ.out]
                  simp [addS, Nat.add_assoc]
                clear hcl6 hgv
                go_wp2_with (refine wpList_store_row rfl 61 (.tmp 4) (.tmp 74) rfl V #[.int .u32 (M'.a : Int), .int .i64 0, .int .i64 ((sj : Int) + 1)] rfl rfl 61 _ HI.out.ver size61 rfl (by simp [Value.oneCell']) ?_)
                refine bodyPost_ret (vret_row rfl _ _ V #[.int .u32 (M'.a : Int), .int .i64 0, .int .i64 ((sj : Int) + 1)] _ rfl (GVt.setRow HI.out.ver _) Try.underlying61 rfl size61) rfl ?_
                rw [HR.out]
                exact ⟨rfl, gvgrown_setRow HI.out.up _ _ (.inr HV.out)⟩
            · have hy : nextL ⟨code, 2, ⟨ic, it, jf, ik⟩, yes, no⟩ = [yes.toNat] := by rw [nextL, if_neg (by simp), if_pos rfl]
              have hl1 := HN.out yes.toNat (by rw [hy]; simp)
              have HGO : Hid (addS sj (goG (gOf xs) pk f yes.toNat M') = Res) := by
                show _ = _
                rw [← HGo.out, if_neg (by decide), if_neg (by decide), if_pos rfl, addS_addS, ← HSJ.out]
              have hsn := HSJ.out
              have hcn := HCS.out
              have hmn := codeLen_mono (gOf xs) (show k + 1 ≤ yes.toNat by omega)
              clear hy
              go_wp2
              go_roundw
              case rel => exact ⟨yes.toNat, f, sj, M', by go_num, by rw [Int.toNat_of_nonneg (by omega)], by omega, by omega, by omega, HI, HGO⟩
              case measure => simp [intOf]; omega
            · have hy : nextL ⟨code, 3, ⟨ic, it, jf, ik⟩, yes, no⟩ = [yes.toNat, no.toNat] := by rw [nextL, if_neg (by simp), if_neg (by simp)]
              have hl1 := HN.out yes.toNat (by rw [hy]; simp)
              have hl4 := HN.out no.toNat (by rw [hy]; simp)
              clear hy
              cases hask : asksV ⟨ic, it, jf, ik⟩ M' with
              | true =>
                have HH : Hid (∀ W : World, Calls Try.prog 42 #[.agg #[.int .u16 (ic.toNat : Int), .int .u8 (it.toNat : Int), .int .u8 (jf.toNat : Int), .int .u32 (ik.toNat : Int)], .int .u32 (M'.a : Int), .int .u32 (M'.x : Int)] W fun e w' => e = .returned (.bool true) ∧ W.grownBy w' none) := fun W => by
                  have := holds_q ic.toNat it.toNat jf.toNat ik.toNat M'.a M'.x W (by have := ik.toNat_lt; omega) HI.out.ok.1 HI.out.ok.2.1
                  rw [show holdsV (bits .andNot .u16 ic.toNat 8) M'.a (sideV ic.toNat ik.toNat M'.x) = true from hask] at this
                  exact this
                have HGO : Hid (addS (sj + 1) (goG (gOf xs) pk f yes.toNat M') = Res) := by
                  show _ = _
                  rw [← HGo.out, if_neg (by decide), if_neg (by decide), if_neg (by decide), if_pos hask, addS_addS, ← HSJ.out, Nat.add_assoc]
                clear hask
                go_wp2_with fail
                refine (HH.out _).mono ?_
                rintro e w6 ⟨rfl, K6⟩
                have HI6 : Hid (GsI w w6 V g M') := HI.out.kept K6
                have d6 := K6.cell a6 (by simp)
                have d7 := K6.cell a7 (by simp)
                clear a0 a1 a2 a3 a4 a5 a6 a7 m0 m1 HI HVB HH K6
                have hsn := HSJ.out
                have hcn := HCS.out
                have hmn := codeLen_mono (gOf xs) (show k + 1 ≤ yes.toNat by omega)
                go_wp2
                go_roundw
                case rel => exact ⟨yes.toNat, f, sj + 1, M', by go_num, by rw [Int.toNat_of_nonneg (by omega)], by omega, by omega, by omega, HI6, HGO⟩
                case measure => simp [intOf]; omega
              | false =>
                have HH : Hid (∀ W : World, Calls Try.prog 42 #[.agg #[.int .u16 (ic.toNat : Int), .int .u8 (it.toNat : Int), .int .u8 (jf.toNat : Int), .int .u32 (ik.toNat : Int)], .int .u32 (M'.a : Int), .int .u32 (M'.x : Int)] W fun e w' => e = .returned (.bool false) ∧ W.grownBy w' none) := fun W => by
                  have := holds_q ic.toNat it.toNat jf.toNat ik.toNat M'.a M'.x W (by have := ik.toNat_lt; omega) HI.out.ok.1 HI.out.ok.2.1
                  rw [show holdsV (bits .andNot .u16 ic.toNat 8) M'.a (sideV ic.toNat ik.toNat M'.x) = false from hask] at this
                  exact this
                have HGO : Hid (addS (sj + 1) (goG (gOf xs) pk f no.toNat M') = Res) := by
                  show _ = _
                  rw [← HGo.out, if_neg (by decide), if_neg (by decide), if_neg (by decide), if_neg (by rw [hask]; simp), addS_addS, ← HSJ.out, Nat.add_assoc]
                clear hask
                go_wp2_with fail
                refine (HH.out _).mono ?_
                rintro e w6 ⟨rfl, K6⟩
                have HI6 : Hid (GsI w w6 V g M') := HI.out.kept K6
                have d6 := K6.cell a6 (by simp)
                have d7 := K6.cell a7 (by simp)
                clear a0 a1 a2 a3 a4 a5 a6 a7 m0 m1 HI HVB HH K6
                have hsn := HSJ.out
                have hcn := HCS.out
                have hmn := codeLen_mono (gOf xs) (show k + 1 ≤ no.toNat by omega)
                go_wp2
                go_roundw
                case rel => exact ⟨no.toNat, f, sj + 1, M', by go_num, by rw [Int.toNat_of_nonneg (by omega)], by omega, by omega, by omega, HI6, HGO⟩
                case measure => simp [intOf]; omega

end Go.Proofs.Ytelgfegkobkhiaa
