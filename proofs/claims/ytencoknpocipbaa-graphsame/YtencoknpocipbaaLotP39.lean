/-
  Package graph as landed: Run. riddlelaw15.awake: what every program answers that is one.
-/
import Derived.Test.YtencoknpocipbaaLotP19
import Derived.Test.YtencoknpocipbaaGrL
import Derived.Test.YtencoknpocipbaaLotP17
namespace Go.Proofs.Ytencoknpocipbaa
open Go.RowKit
set_option maxRecDepth 100000

def grunA (b : Option Addr) (n cb d q : Nat) : Array Value := #[.int .u32 0, .int .u32 0, .int .u32 0, .int .u32 0, .int .u32 0, .int .u32 0, .int .u32 0, .int .u32 0, .int .u32 0, .int .u32 0, .int .u32 0, .int .u32 0, .int .u32 0, .int .u32 0, .int .u32 0, .int .u32 0, .int .u32 0, .int .u32 0, .slice b n cb, .int .i64 0, .slice (some ⟨d, 0, none⟩) 178 178, .slice (some ⟨q, 0, none⟩) 78 78, .bool false, .int .u32 0, .int .i64 0, .int .i64 0]
def grunZ : Array Value := #[.int .u32 0, .int .u32 0, .int .u32 0, .int .u32 0, .int .u32 0, .int .u32 0, .int .u32 0, .int .u32 0, .int .u32 0, .int .u32 0, .int .u32 0, .int .u32 0, .int .u32 0, .int .u32 0, .int .u32 0, .int .u32 0, .int .u32 0, .int .u32 0, .slice none 0 0, .int .i64 0, .slice none 0 0, .slice none 0 0, .bool false, .int .u32 0, .int .i64 0, .int .i64 0]
theorem grunA_all (b : Option Addr) (n cb d q : Nat) : (grunA b n cb d q).all (·.oneCell') = true := by simp [grunA, Value.oneCell']
theorem size69 : (Try.prog.info? 69).map (·.size) = some 26 := by kernel_rfl
def grun0 (b : Option Addr) (n cb d q : Nat) : Rn := ⟨mc0, .slice b n cb, 0, .slice (some ⟨d, 0, none⟩) 178 178, .slice (some ⟨q, 0, none⟩) 78 78, 69, gRest false 0 0 0⟩
theorem grun0_arr (b : Option Addr) (n cb d q : Nat) : (grun0 b n cb d q).arr = grunA b n cb d q := rfl

def gmeas (n g : Nat) (i : Value) (w : World) : Nat := match w.cell? ⟨g, 22, none⟩ with
  | some (.bool true) => 0
  | _ => n + 1 - (intOf i).toNat

theorem gmeas_over {n g : Nat} {i : Value} {w : World} (h : w.cell? ⟨g, 22, none⟩ = some (.bool true)) : gmeas n g i w = 0 := by rw [gmeas, h]
theorem gmeas_going {n g : Nat} {i : Value} {w : World} (h : w.cell? ⟨g, 22, none⟩ = some (.bool false)) : gmeas n g i w = n + 1 - (intOf i).toNat := by rw [gmeas, h]

set_option maxHeartbeats 4000000 in
theorem grun_any (a pb : Option Addr) (ca cb : Nat) (xs : List Bv) (pk : List UInt8) (w : World) (ha : GC w a xs) (hlen : ∀ x ∈ xs, x.b.code.length ≤ 4611686018427387904) (hb : Cells w pb pk) (hpl : pk.length ≤ 9223372036854775807) :
    Calls Try.prog 13 #[.slice a xs.length ca, .slice pb pk.length cb] w fun e w' => GEnd w (runG (gOf xs) pk) (runGE (gOf xs) pk) e w' := by
  have CT := fun W (G : w.grownBy W none) => taken_any a ca xs W (ha.keptNone G) hlen
  have H : Hid (GC w a xs) := ha
  have HP : Hid (Cells w pb pk) := hb
  have V0 := GVt.alloc w 36 #[.int .u32 0, .int .i64 0, .int .i64 0]
  have G0 : w.grownBy (w.alloc (.cells #[.int .u32 0, .int .i64 0, .int .i64 0] 36)) none := World.grownBy_alloc _ _ _
  have hsz : w.heap.size < (w.alloc (.cells #[.int .u32 0, .int .i64 0, .int .i64 0] 36)).heap.size := by simp
  clear ha hb
  cases ht : takenB (gOf xs) with
  | false =>
    rw [ht] at CT
    have e1 : runGE (gOf xs) pk = 155 := by rw [runGE, if_neg (by rw [← takenB_iff, ht]; simp)]
    have e2 : runG (gOf xs) pk = (0, 0, 0) := by rw [runG, e1]; rfl
    rw [e1, e2]
    clear e1 e2
    go_enter Try.func13, Try.ntmps13
    go_upto_region 1 with fail
    generalize w.alloc (.cells #[.int .u32 0, .int .i64 0, .int .i64 0] 36) = wa at *
    obtain ⟨V, hV⟩ : ∃ V, w.heap.size = V := ⟨_, rfl⟩
    have HV : Hid (w.heap.size ≤ V) := Nat.le_of_eq hV
    rw [hV] at V0 ⊢
    clear hV
    go_wp2_with fail
    refine (CT _ G0).mono ?_
    rintro e w1 ⟨rfl, K⟩
    have V1 := V0.kept K
    have G1 := grown_trans G0 K
    clear K V0 G0 CT
    go_wp2_with (refine wpList_store_row rfl 36 (.tmp 4) (.tmp 11) rfl V #[.int .u32 0, .int .i64 0, .int .i64 0] rfl rfl 36 _ V1 size36 rfl (by simp [Value.oneCell']) ?_)
    refine bodyPost_ret (vret_row rfl _ _ V #[.int .u32 0, .int .i64 0, .int .i64 0] _ rfl (V1.setRow _) Try.underlying36 rfl size36) rfl ?_
    exact ⟨rfl, gvgrown_setRow G1 _ _ (.inr HV.out)⟩
  | true =>
    rw [ht] at CT
    have htk := takenB_iff.1 ht
    by_cases hl : 65536 < pk.length
    · have e1 : runGE (gOf xs) pk = 51 := by rw [runGE, if_pos htk, if_pos hl]
      have e2 : runG (gOf xs) pk = (0, 0, 0) := by rw [runG, e1]; rfl
      rw [e1, e2]
      have hl' : (65536 : Int) < (pk.length : Int) := by omega
      clear e1 e2 htk ht
      go_enter Try.func13, Try.ntmps13
      go_upto_region 1 with fail
      generalize w.alloc (.cells #[.int .u32 0, .int .i64 0, .int .i64 0] 36) = wa at *
      obtain ⟨V, hV⟩ : ∃ V, w.heap.size = V := ⟨_, rfl⟩
      have HV : Hid (w.heap.size ≤ V) := Nat.le_of_eq hV
      rw [hV] at V0 ⊢
      clear hV
      go_wp2_with fail
      refine (CT _ G0).mono ?_
      rintro e w1 ⟨rfl, K⟩
      have V1 := V0.kept K
      have G1 := grown_trans G0 K
      clear K V0 G0 CT
      go_wp2_with (refine wpList_store_row rfl 36 (.tmp 4) (.tmp 15) rfl V #[.int .u32 0, .int .i64 0, .int .i64 0] rfl rfl 36 _ V1 size36 rfl (by simp [Value.oneCell']) ?_)
      refine bodyPost_ret (vret_row rfl _ _ V #[.int .u32 0, .int .i64 0, .int .i64 0] _ rfl (V1.setRow _) Try.underlying36 rfl size36) rfl ?_
      exact ⟨rfl, gvgrown_setRow G1 _ _ (.inr HV.out)⟩
    · have e1 : runGE (gOf xs) pk = 0 := by rw [runGE, if_pos htk, if_neg hl]
      have e2 : runG (gOf xs) pk = goG (gOf xs) pk xs.length 0 mc0 := by rw [runG, if_pos e1, gOf_len]
      have hl' : ¬ (65536 : Int) < (pk.length : Int) := by omega
      have hT := taken_g htk
      have HT : Hid (TakenG (gOf xs)) := hT
      have hn0 : 0 < xs.length := by have := hT.pos; rwa [gOf_len] at this
      have hn1 : xs.length ≤ 4096 := by have := hT.few; rwa [gOf_len] at this
      rw [e1]
      obtain ⟨Res, hRes⟩ : ∃ r, runG (gOf xs) pk = r := ⟨_, rfl⟩
      rw [hRes]
      have HRes : Hid (goG (gOf xs) pk xs.length 0 mc0 = Res) := e2.symm.trans hRes
      clear e1 e2 htk ht hRes hT
      go_enter Try.func13, Try.ntmps13
      go_upto_region 1 with fail
      generalize w.alloc (.cells #[.int .u32 0, .int .i64 0, .int .i64 0] 36) = wa at *
      obtain ⟨V, hV⟩ : ∃ V, w.heap.size = V := ⟨_, rfl⟩
      have HV : Hid (w.heap.size ≤ V) := Nat.le_of_eq hV
      rw [hV] at V0 hsz ⊢
      clear hV
      go_wp2_with fail
      refine (CT _ G0).mono ?_
      rintro e w1 ⟨rfl, K⟩
      have V1 := V0.kept K
      have G1 := grown_trans G0 K
      have hV1 : V < w1.heap.size := Nat.lt_of_lt_of_le hsz K.size
      clear K V0 G0 CT hsz
      go_wp2_with fail
      refine (gover_any pb pk.length cb _).mono ?_
      rintro e w2 ⟨d, q, rfl, T2, Q2, hd, hq, K2⟩
      have V2 := V1.kept K2
      have G2 := grown_trans G1 K2
      have hV2 : V < w2.heap.size := Nat.lt_of_lt_of_le hV1 K2.size
      have hdl := tab_lt T2
      have hql := qtab_lt Q2
      clear K2 V1 G1 hV1 hd hq
      simp only [machA]
      have VZ := GVt.alloc w2 69 grunZ
      have KZ : w2.grownBy ((w2.alloc (.cells grunZ 69)).setRow w2.heap.size (grunA pb pk.length cb d q)) none := gvgrown_setRow (World.grownBy_alloc _ _ none) _ _ (.inr (Nat.le_refl _))
      have HL0 : Hid (GRun w ((w2.alloc (.cells grunZ 69)).setRow w2.heap.size (grunA pb pk.length cb d q)) w2.heap.size d q pb cb pk (grun0 pb pk.length cb d q)) :=
        ⟨⟨by rw [grun0_arr]; exact VZ.setRow _, rfl⟩, G2.size, grown_trans G2 KZ, rfl, rfl, rfl, T2.grown KZ (by simp), Q2.grown KZ (by simp), by omega, by omega, rfl, mc0_ok, HP.out, by omega⟩
      have HV3 : Hid (GVt ((w2.alloc (.cells grunZ 69)).setRow w2.heap.size (grunA pb pk.length cb d q)) V 36 #[.int .u32 0, .int .i64 0, .int .i64 0] ∧ V ≠ w2.heap.size) := ⟨V2.kept KZ, by omega⟩
      have HSA : Hid ((Try.prog.info? 69).map (·.size) = some (grunA pb pk.length cb d q).size) := size69
      clear T2 Q2 hdl hql V2 KZ hV2
      go_upto_region 6 with (refine wpList_store_row rfl 69 (.tmp 6) (.tmp 18) rfl w2.heap.size (grunA pb pk.length cb d q) rfl rfl 69 _ VZ HSA.out rfl (grunA_all _ _ _ _ _) ?_)
      rw [show w2.alloc (.cells #[.int .u32 0, .int .u32 0, .int .u32 0, .int .u32 0, .int .u32 0, .int .u32 0, .int .u32 0, .int .u32 0, .int .u32 0, .int .u32 0, .int .u32 0, .int .u32 0, .int .u32 0, .int .u32 0, .int .u32 0, .int .u32 0, .int .u32 0, .int .u32 0, .slice none 0 0, .int .i64 0, .slice none 0 0, .slice none 0 0, .bool false, .int .u32 0, .int .i64 0, .int .i64 0] 69) = w2.alloc (.cells grunZ 69) from rfl]
      clear VZ
      generalize (w2.alloc (.cells grunZ 69)).setRow w2.heap.size (grunA pb pk.length cb d q) = w3 at *
      generalize w2.heap.size = g at *
      clear G2 HSA
      go_wp2
      go_loopw [7] (fun i wr => Hid (GVt wr V 36 #[.int .u32 0, .int .i64 0, .int .i64 0]) ∧ w.grownBy wr none ∧
        ((∃ (k f s : Nat) (M : Mc), i = .int .i64 (k : Int) ∧ k < xs.length ∧ s ≤ codeLen ((gOf xs).take k) + k ∧ xs.length ≤ f + k ∧ Hid (GRun w wr g d q pb cb pk { grun0 pb pk.length cb d q with M := M, rest := gRest false 0 0 s }) ∧ Hid (addS s (goG (gOf xs) pk f k M) = Res)) ∨
         (i = .int .i64 0 ∧ ∃ (R : Rn) (v s : Nat) (vf : Int), Hid (RAt wr g R ∧ R.rest = gRest true v vf s ∧ Res = (v, vf, s))))) (fun i wr => gmeas xs.length g i wr)
      case atStart =>
        refine ⟨HV3.out.1, HL0.out.up, .inl ⟨0, xs.length, 0, mc0, rfl, hn0, Nat.zero_le _, by omega, HL0.out, ?_⟩⟩
        show addS 0 (goG (gOf xs) pk xs.length 0 mc0) = Res
        rw [HRes.out]
        simp [addS]
      case round =>
        have hVg := HV3.out.2
        clear HL0 HRes HV3
        obtain ⟨HVr, G, hst⟩ := hrel
        rcases hst with ⟨k, f, s, M, rfl, hk, hs, hf, HLr, HGo⟩ | ⟨rfl, R, v, s, vf, HO⟩
        · obtain ⟨f, rfl⟩ : ∃ m, f = m + 1 := ⟨f - 1, by omega⟩
          have hl : (k : Int) < (xs.length : Int) := by omega
          have d22 : wr.cell? ⟨g, 22, none⟩ = some (.bool false) := HLr.out.at'.o rfl
          have hcl : codeLen ((gOf xs).take k) ≤ 4096 := Nat.le_trans (codeLen_take _ _) HT.out.room
          have CO := onward_any xs HT.out k f s hk a w wr H.out g d q pb cb pk _ HLr.out rfl (by omega)
          have HCL : Hid (codeLen ((gOf xs).take (k + 1)) = codeLen ((gOf xs).take k) + ((gOf xs).getD k bk0).code.length) := by
            have hk' : k < (gOf xs).length := by rw [gOf_len]; exact hk
            show _ = _
            rw [codeLen_succ hk', List.getD_eq_getElem?_getD, List.getElem?_eq_getElem hk']
            rfl
          obtain ⟨b1, o1, rfl, h1'⟩ := ((H.out.keptNone G).1).blocks hk
          have h1' := h1' k hk
          generalize xs[k] = x at *
          obtain ⟨⟨code, en, ⟨ic, it, jf, ik⟩, yes, no⟩, xa, xc⟩ := x
          have c0 := h1' 0 _ rfl
          have c1 := h1' 1 _ rfl
          have c2 := h1' 2 _ rfl
          have c3 := h1' 3 _ rfl
          have c4 := h1' 4 _ rfl
          have c5 := h1' 5 _ rfl
          have c6 := h1' 6 _ rfl
          have c7 := h1' 7 _ rfl
          clear h1'
          rw [Nat.add_zero] at c0
          simp only at c0 c1 c2 c3 c4 c5 c6 c7
          simp only [bkV, bkA] at CO
          go_wp2_with fail
          refine CO.mono ?_
          rintro e w4 ⟨n, rfl, hO, K4⟩
          have HV4 : Hid (GVt w4 V 36 #[.int .u32 0, .int .i64 0, .int .i64 0]) := HVr.out.grown K4 (by simpa using Ne.symm hVg)
          have G4 : w.grownBy w4 none := grown_trans_new G K4 (fun x e => by cases e; exact HLr.out.new)
          have HO4 : Hid (Onward w (gOf xs) pk g d q pb cb { grun0 pb pk.length cb d q with M := M, rest := gRest false 0 0 s } k f s M n w4) := hO
          clear c0 c1 c2 c3 c4 c5 c6 c7 CO K4 hO HVr
          go_wp2
          go_roundw
          case rel =>
            refine ⟨HV4, G4, ?_⟩
            rcases HO4.out with ⟨rfl, R', v, s', vf, r1, r2, r3⟩ | ⟨k', M', s', rfl, h1, h2, h3, h4, h5⟩
            · exact .inr ⟨rfl, R', v, s', vf, ⟨r1, r2, HGo.out.symm.trans r3⟩⟩
            · rw [gOf_len] at h2
              have := HCL.out
              have hm := codeLen_mono (gOf xs) (show k + 1 ≤ k' by omega)
              exact .inl ⟨k', f, s', M', rfl, h2, by omega, by omega, h3, h5.trans HGo.out⟩
          case measure =>
            rw [gmeas_going d22]
            rcases HO4.out with ⟨rfl, R', v, s', vf, r1, r2, r3⟩ | ⟨k', M', s', rfl, h1, h2, h3, h4, h5⟩
            · rw [gmeas_over (r1.o r2)]
              simp [intOf]
              omega
            · rw [gmeas_going (h3.at'.o rfl)]
              rw [gOf_len] at h2
              simp [intOf]
              omega
        · have d22 : wr.cell? ⟨g, 22, none⟩ = some (.bool true) := HO.out.1.o HO.out.2.1
          have d23 : wr.cell? ⟨g, 23, none⟩ = some (.int .u32 (v : Int)) := HO.out.1.v HO.out.2.1
          have d24 : wr.cell? ⟨g, 24, none⟩ = some (.int .i64 vf) := HO.out.1.vf HO.out.2.1
          have d25 : wr.cell? ⟨g, 25, none⟩ = some (.int .i64 (s : Int)) := HO.out.1.s HO.out.2.1
          have HR : Hid (Res = (v, vf, s)) := HO.out.2.2
          clear HO
          go_wp2_with (refine wpList_store_row rfl 36 (.tmp 4) (.tmp 28) rfl V #[.int .u32 (v : Int), .int .i64 vf, .int .i64 (s : Int)] rfl rfl 36 _ HVr.out size36 rfl (by simp [Value.oneCell']) ?_)
          refine bodyPost_ret (vret_row rfl _ _ V #[.int .u32 (v : Int), .int .i64 vf, .int .i64 (s : Int)] _ rfl (GVt.setRow HVr.out _) Try.underlying36 rfl size36) rfl ?_
          rw [HR.out]
          exact ⟨rfl, gvgrown_setRow G _ _ (.inr HV.out)⟩

end Go.Proofs.Ytencoknpocipbaa

namespace Go.Proofs.Ytencoknpocipbaa
open Go.RowKit
set_option maxRecDepth 100000

def p15 : List In := [⟨48, 0, 0, 0⟩, ⟨21, 1, 0, 7⟩, ⟨6, 0, 0, 0⟩, ⟨6, 0, 0, 1⟩]
theorem p15_e : ofE p15 = 0 := by kernel_rfl
theorem p15_len : (ofG p15).length = 3 := by kernel_rfl
theorem p15_code : ∀ b ∈ ofG p15, b.code.length ≤ 4096 := by
  have : (ofG p15).all (fun b => decide (b.code.length ≤ 4096)) = true := by kernel_rfl
  intro b hb
  simpa using List.all_eq_true.1 this b hb
theorem p15_taken : takenB (ofG p15) = true := by kernel_rfl
theorem p15_runE : runGE (ofG p15) [7] = 0 := by kernel_rfl
theorem p15_run : runG (ofG p15) [7] = (1, 0, 3) := by kernel_rfl
theorem p15_size : countG sizeE (ofG p15) = 4 := by kernel_rfl
theorem p15_meas : countG measE (ofG p15) = 6 := by kernel_rfl


set_option maxHeartbeats 4000000 in
theorem awake15_any (w : World) : Calls Try.prog 6 #[] w fun e w' => e = .returned (.bool true) ∧ w.grownBy w' none := by
  have C0 := cv_lit w 46 (flat p15)
  have G0 : w.grownBy (w.alloc (.cells (flat p15).toArray 46)) none := World.grownBy_alloc _ _ _
  have HC : Hid (CV (w.alloc (.cells #[.int .u16 48, .int .u8 0, .int .u8 0, .int .u32 0, .int .u16 21, .int .u8 1, .int .u8 0, .int .u32 7, .int .u16 6, .int .u8 0, .int .u8 0, .int .u32 0, .int .u16 6, .int .u8 0, .int .u8 0, .int .u32 1] 46)) (some ⟨w.heap.size, 0, none⟩) (flat p15)) := C0
  have HG : Hid (w.grownBy (w.alloc (.cells #[.int .u16 48, .int .u8 0, .int .u8 0, .int .u32 0, .int .u16 21, .int .u8 1, .int .u8 0, .int .u32 7, .int .u16 6, .int .u8 0, .int .u8 0, .int .u32 0, .int .u16 6, .int .u8 0, .int .u8 0, .int .u32 1] 46)) none) := G0
  clear C0 G0
  go_enter Try.func6, Try.ntmps6
  go_upto_region 2 with fail
  generalize w.alloc (.cells #[.int .u16 48, .int .u8 0, .int .u8 0, .int .u32 0, .int .u16 21, .int .u8 1, .int .u8 0, .int .u32 7, .int .u16 6, .int .u8 0, .int .u8 0, .int .u32 0, .int .u16 6, .int .u8 0, .int .u8 0, .int .u32 1] 46) = w1 at *
  go_wp2_with fail
  refine (of_any (some ⟨w.heap.size, 0, none⟩) 4 p15 _ HC.out (by decide)).mono ?_
  rintro e w2 ⟨v, vs, rfl, B, hg, K⟩
  rw [p15_e]
  obtain ⟨ao, cap, rfl, gc, -⟩ := B.gc
  have hvl : vs.length = 3 := by rw [← gOf_len, hg, p15_len]
  have HL : Hid (∀ x ∈ vs, x.b.code.length ≤ 4611686018427387904) := fun x hx => by
    have : x.b ∈ gOf vs := List.mem_map.2 ⟨x, hx, rfl⟩
    rw [hg] at this
    have := p15_code _ this
    omega
  have HGC : Hid (GC w2 ao vs) := gc
  have HK : Hid (w.grownBy w2 none) := grown_trans HG.out K
  have C7 := cells_lit w2 [7]
  have G7 : w2.grownBy (w2.alloc (.cells #[.int .u8 7] 5)) none := World.grownBy_alloc _ _ _
  have CR := grun_any ao (some ⟨w2.heap.size, 0, none⟩) cap 1 vs [7] (w2.alloc (.cells #[.int .u8 7] 5)) (gc.keptNone G7) HL.out C7 (by decide)
  rw [hg, p15_run, p15_runE, hvl] at CR
  have CS := fun W (G : w2.grownBy W none) => gsize_any ao cap vs W (gc.keptNone G) HL.out
  have CM := fun W (G : w2.grownBy W none) => gmeasure_any ao cap vs W (gc.keptNone G) HL.out
  rw [hg, p15_taken, p15_size, hvl] at CS
  rw [hg, p15_taken, p15_meas, hvl] at CM
  simp only [if_true] at CS CM
  rw [hvl]
  have HCS : Hid (∀ W, w2.grownBy W none → Calls Try.prog 16 #[.slice ao 3 cap] W fun e w' => e = .returned (.tuple #[.int .i64 4, .int .i64 0]) ∧ W.grownBy w' none) := CS
  have HCM : Hid (∀ W, w2.grownBy W none → Calls Try.prog 17 #[.slice ao 3 cap] W fun e w' => e = .returned (.tuple #[.int .i64 6, .int .i64 0]) ∧ W.grownBy w' none) := CM
  clear CS CM B hg K gc C7 HC HG HGC HL hvl
  go_wp2_with fail
  refine CR.mono ?_
  rintro e w3 ⟨rfl, K3⟩
  have H3 : Hid (w2.grownBy w3 none) := grown_trans G7 K3
  clear K3 G7 CR
  have V3 := GVt.alloc w3 36 #[.int .u32 1, .int .i64 0, .int .i64 3]
  have G3 : w3.grownBy (w3.alloc (.cells #[.int .u32 1, .int .i64 0, .int .i64 3] 36)) none := World.grownBy_alloc _ _ _
  go_upto_region 4 with fail
  generalize w3.alloc (.cells #[.int .u32 1, .int .i64 0, .int .i64 3] 36) = w4 at *
  generalize w3.heap.size = V at *
  have H4 : Hid (w2.grownBy w4 none) := grown_trans H3.out G3
  clear G3 H3
  go_wp2_with fail
  refine (HCS.out _ H4.out).mono ?_
  rintro e w5 ⟨rfl, K5⟩
  have V5 := V3.kept K5
  have H5 : Hid (w2.grownBy w5 none) := grown_trans H4.out K5
  clear K5 V3 H4 HCS
  go_wp2_with fail
  refine (HCM.out _ H5.out).mono ?_
  rintro e w6 ⟨rfl, K6⟩
  have V6 := V5.kept K6
  have H6 : Hid (w2.grownBy w6 none) := grown_trans H5.out K6
  clear K6 V5 H5 HCM
  go_wp2_with fail
  refine (gcheck_any none 0 [] _ ⟨⟨fun _ => rfl, fun ad had => (by cases had)⟩, fun x hx => (by cases hx)⟩ (fun x hx => (by cases hx))).mono ?_
  rintro e w7 ⟨rfl, K7⟩
  rw [show gckG (gOf []) = (0, 150) from rfl]
  have V7 := V6.kept K7
  have GF := grown_trans (grown_trans HK.out H6.out) K7
  have a0 : w7.cell? ⟨V, 0, none⟩ = some (.int .u32 1) := V7.cell 0
  have a1 : w7.cell? ⟨V, 1, none⟩ = some (.int .i64 0) := V7.cell 1
  have a2 : w7.cell? ⟨V, 2, none⟩ = some (.int .i64 3) := V7.cell 2
  clear V7 K7 H6 HK V6
  go_wp2
  go_ret
  exact ⟨rfl, GF⟩

end Go.Proofs.Ytencoknpocipbaa
