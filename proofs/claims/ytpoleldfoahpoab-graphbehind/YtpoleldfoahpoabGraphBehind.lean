/-
  For every list of blocks, every list of bytes and every word riddlelaw15.GraphBehind returns true and leaves what was there as it was: no condition of ours.
-/
import Derived.Test.YtpoleldfoahpoabLotP25
import Derived.Test.YtpoleldfoahpoabLotP30
import Derived.Test.YtpoleldfoahpoabLotP31
import Derived.Test.YtpoleldfoahpoabLotP32
namespace Go.Proofs.Ytpoleldfoahpoab
open Go.ChangeShapes Go.WideShapes Go.ChangeAt Go.RowKit
set_option maxRecDepth 100000
namespace graphBehind

set_option maxHeartbeats 8000000 in
theorem walk (a : Option Addr) (ca : Nat) (xs : List Bv) (b : Option Addr) (cb : Nat) (pk : List UInt8) (kn : Nat) (w : World) (ha : GC w a xs) (_hc0 : a = none → ca = 0) (_hc1 : xs.length ≤ ca) (_hc2 : ca ≤ maxLen) (hn : xs.length * 56 ≤ 140737488351232) (hm : ∀ x ∈ xs, x.b.code.length * 8 ≤ 140737488351232)
    (hb : Cells w b pk) (hd0 : b = none → cb = 0) (hpm : pk.length ≤ 140737488351232) (hkn : kn ≤ 4294967295) :
    Calls Try.prog 3 #[.slice a xs.length ca, .slice b pk.length cb, .int .u32 (kn : Int)] w fun e w' => e = .returned (.bool true) ∧ w.grownBy w' none := by
  obtain ⟨ku, rfl⟩ : ∃ u : UInt32, u.toNat = kn := ⟨UInt32.ofNat kn, by rw [UInt32.toNat_ofNat']; omega⟩
  obtain ⟨i0, hi, hz0, hz1, hz2⟩ := info_parts info38
  obtain ⟨j0, hj, jz0, jz1, jz2⟩ := info_parts info35
  have hlen : ∀ x ∈ xs, x.b.code.length ≤ 4611686018427387904 := fun x hx => by have := hm x hx; omega
  have H : Hid (GC w a xs) := ha
  have HZL : Hid (∀ zs : List Bv, gOf zs = gOf xs → (∀ y ∈ zs, y.b.code.length ≤ 4611686018427387904) ∧ zs.length = xs.length) := fun zs hz => ⟨fun y hyy => by
    have h1 : y.b ∈ gOf xs := by rw [← hz]; exact List.mem_map.2 ⟨y, hyy, rfl⟩
    obtain ⟨x, hx, hxb⟩ := List.mem_map.1 h1
    rw [← hxb]
    exact hlen x hx, by have := congrArg List.length hz; rwa [gOf_len, gOf_len] at this⟩
  have HCP : Hid (∀ W, w.grownBy W none → Calls Try.prog 5 #[.slice a xs.length ca] W (BlksP W (gOf xs))) := fun W G => bcopy_any a ca xs W (ha.keptNone G) (by omega) hm
  have HBY : Hid (∀ W, w.grownBy W none → Calls Try.prog 6 #[.slice b pk.length cb] W fun e w' => ∃ v, e = .returned v ∧ Owns w' W.heap.size v pk ∧ W.grownBy w' none) := fun W G => copy_any b cb pk W (hb.keptNone G) hd0 (by omega)
  obtain ⟨E, hE⟩ : ∃ E, runGE (gOf xs) pk = E := ⟨_, rfl⟩
  obtain ⟨⟨rv, rf, rs⟩, hR⟩ : ∃ R, runG (gOf xs) pk = R := ⟨_, rfl⟩
  have HRN : Hid (∀ W a' c' b' d' zs, GC W a' zs → gOf zs = gOf xs → Cells W b' pk → Calls Try.prog 4 #[.slice a' xs.length c', .slice b' pk.length d'] W fun e w' => e = .returned (.tuple #[.agg #[.int .u32 (rv : Int), .int .i64 rf, .int .i64 (rs : Int)], .int .i64 E]) ∧ W.grownBy w' none) := fun W a' c' b' d' zs hG hz hc => by
    have h := grun_any a' b' c' d' zs pk W hG (HZL.out zs hz).1 hc (by omega)
    rw [hz, hR, hE, (HZL.out zs hz).2] at h
    exact h
  have HE : Hid (runGE (gOf xs) pk = E) := hE
  have HR : Hid (runG (gOf xs) pk = (rv, rf, rs)) := hR
  clear ha hb hm hlen hE hR hkn
  go_enter Try.func3, Try.ntmps3
  go_wp2_with fail
  refine (HCP.out w (World.grownBy.refl _ _)).mono ?_
  rintro e w1 ⟨v1, z1, rfl, B1, hz1, K1⟩
  obtain ⟨a1, c1, rfl, GC1, -⟩ := B1.gc
  rw [(HZL.out z1 hz1).2]
  clear B1
  go_wp2_with fail
  refine (HBY.out w1 K1).mono ?_
  rintro e w2 ⟨v2, rfl, O2, K2⟩
  obtain ⟨a2, c2, rfl, P2, -⟩ := O2.rd
  have CN := HRN.out w2 a1 c1 a2 c2 z1 (GC1.keptNone K2) hz1 P2
  have G2 := grown_trans K1 K2
  clear O2 K1 K2 P2 GC1 hz1 HRN
  go_wp2_with fail
  refine CN.mono ?_
  rintro e w3 ⟨rfl, K3⟩
  have KA : w3.grownBy (w3.alloc (.cells #[.int .u32 (rv : Int), .int .i64 rf, .int .i64 (rs : Int)] 26)) none := World.grownBy_alloc _ _ _
  have V4 := VAt.alloc w3 26 #[.int .u32 (rv : Int), .int .i64 rf, .int .i64 (rs : Int)]
  have G3 := grown_trans G2 K3
  have G4 := grown_trans G3 KA
  have hwV : w.heap.size ≤ w3.heap.size := G3.size
  clear KA K3 G2 CN G3
  go_upto_region 2 with fail
  generalize w3.alloc (.cells #[.int .u32 (rv : Int), .int .i64 rf, .int .i64 (rs : Int)] 26) = w4 at *
  generalize w3.heap.size = V at *
  by_cases hE0 : E = 0
  · subst hE0
    by_cases hl : (4096 : Int) ≤ (xs.length : Int)
    · have CA := awake15_any w4
      go_wp2_with fail
      refine CA.mono ?_
      rintro e wz ⟨rfl, KZ⟩
      have GZ := grown_trans G4 KZ
      clear CA
      go_wp2
      go_ret
      exact ⟨rfl, GZ⟩
    · have hck : (checkG (gOf xs)).2 = 0 := by
        have h := HE.out
        rw [runGE] at h
        by_cases hc : (checkG (gOf xs)).2 = 0
        · exact hc
        · rw [if_neg hc] at h
          cases h
      have hpk : pk.length ≤ 65536 := by
        have h := HE.out
        rw [runGE, if_pos hck] at h
        by_cases hc : 65536 < pk.length
        · rw [if_pos hc] at h
          cases h
        · omega
      have T := taken_g hck
      have HT : Hid (TakenG (gOf xs)) := T
      have hn0 : 0 < xs.length := by have := T.pos; rwa [gOf_len] at this
      obtain ⟨-, -, s2, -⟩ := runG_steps (pk := pk) hck hpk
      rw [HR.out] at s2
      have s3 := countG_le sizeE 3 (fun b => by unfold sizeE; split <;> omega) (gOf xs)
      have s4 := T.room
      rw [gOf_len] at s3
      have hrs : rs ≤ 20000 := by simp only at s2; omega
      have HMR : Hid (∀ k : UInt32, runG (gOf xs ++ [endB k]) pk = (rv, rf, rs) ∧ runGE (gOf xs ++ [endB k]) pk = 0) := fun k => by
        have := more_run (pk := pk) hck (by rw [gOf_len]; omega) k
        rw [HR.out, HE.out] at this
        exact this
      have HTR : Hid (∀ (k : UInt32) (b : Bk) (r : List Bk), gOf xs = b :: r → codeLen (gOf xs) ≤ 4094 → runG (twoB k b :: r) pk = (rv, rf, 2 + rs) ∧ runGE (twoB k b :: r) pk = 0) := fun k b r hg hc => by
        have := two_run (pk := pk) (b := b) (r := r) (by rw [← hg]; exact hck) (by rw [← hg]; exact hc) k (by rw [← hg]; exact HE.out)
        rw [← hg, HR.out] at this
        exact this
      clear T hck s2 s3 s4 hpk
      go_wp2_with fail
      refine (HCP.out w4 G4).mono ?_
      rintro e w5 ⟨v5, zs, rfl, B5, hz, K5⟩
      have G5 := grown_trans G4 K5
      have V5 := V4.kept K5
      have HZ : Hid (gOf zs = gOf xs) := hz
      have hzl := (HZL.out zs hz).2
      have HZN : Hid (zs.length = xs.length) := hzl
      obtain ⟨bk, hbk⟩ : ∃ bk : Bv, bk = ⟨endB ku, none, 0⟩ := ⟨_, rfl⟩
      have KA : w5.grownBy (w5.alloc (.cells #[.slice none 0 0, .int .i64 1, .int .u16 6, .int .u8 0, .int .u8 0, .int .u32 (ku.toNat : Int), .int .i64 0, .int .i64 0] 38)) none := World.grownBy_alloc _ _ _
      have CA : CV (w5.alloc (.cells #[.slice none 0 0, .int .i64 1, .int .u16 6, .int .u8 0, .int .u8 0, .int .u32 (ku.toNat : Int), .int .i64 0, .int .i64 0] 38)) (some ⟨w5.heap.size, 0, none⟩) (flatB [bk]) := by rw [hbk]; exact lit_block w5 ⟨endB ku, none, 0⟩
      have B6 := B5.keptNone KA
      have V6 := V5.kept KA
      have G6 := grown_trans G5 KA
      have h46 : w4.heap.size ≤ (w5.alloc (.cells #[.slice none 0 0, .int .i64 1, .int .u16 6, .int .u8 0, .int .u8 0, .int .u32 (ku.toNat : Int), .int .i64 0, .int .i64 0] 38)).heap.size := Nat.le_trans K5.size KA.size
      have HPB : Hid (bk = ⟨endB ku, none, 0⟩) := hbk
      have hw4 := G4.size
      have hVw4 := V4.lt
      clear hbk KA B5 V5 G5 K5 V4 G4 hz hzl
      generalize w4.heap.size = b4 at *
      go_wp2_with (at_builtin; refine wpList_append_cv rfl (.tmp 34) (.tmp 38) 22 rfl 38 i0 _ 8 56 Try.underlying22 hi hz0 hz1 hz2 rfl (by decide) b4 _ zs.length (flatB zs) rfl ?q1 (some ⟨w5.heap.size, 0, none⟩) 1 1 (flatB [bk]) rfl rfl (fun e => by cases e) ?q2 (flatB_one _) ?q3 ?q4 ?q5 ?q6)
      case q1 => exact B6.1
      case q2 => exact CA
      case q3 => unfold maxLen; have := HZN.out; omega
      case q4 => have := HZN.out; omega
      case q5 => exact h46
      case q6 =>
        intro v7 w7 h7 K7
        have B7 : BLv w7 b4 v7 (zs ++ [bk]) := B6.push (by rw [HPB.out]; exact World.ownsRow_nil _ _ _ _) (by rw [HPB.out]; intro y _ z _ e; cases e) h7 K7
        have G7 := grown_trans_new G6 K7 (fun z hz => by have := (B6.1.lt z hz).1; omega)
        have V7 := V6.grown K7 (by intro e; have := (B6.1.lt V e).1; omega)
        obtain ⟨ax, cx, rfl, GX, -⟩ := B7.gc
        have HRX : Hid (∀ W b' d', w7.grownBy W none → Cells W b' pk → Calls Try.prog 4 #[.slice ax (zs ++ [bk]).length cx, .slice b' pk.length d'] W fun e w' => e = .returned (.tuple #[.agg #[.int .u32 (rv : Int), .int .i64 rf, .int .i64 (rs : Int)], .int .i64 0]) ∧ W.grownBy w' none) := fun W b' d' GW hc => by
          have h := grun_any ax b' cx d' (zs ++ [bk]) pk W (GX.keptNone GW) (fun y hy => by
            rcases List.mem_append.1 hy with h | h
            · exact (HZL.out zs HZ.out).1 y h
            · simp only [List.mem_singleton] at h
              rw [h, HPB.out]
              exact Nat.zero_le _) hc (by omega)
          have e : gOf (zs ++ [bk]) = gOf xs ++ [endB ku] := by rw [← HZ.out, HPB.out]; simp [gOf]
          rw [e, (HMR.out ku).1, (HMR.out ku).2] at h
          exact h
        clear B6 V6 G6 CA h7 K7 B7 GX HMR HPB
        generalize (zs ++ [bk]).length = m7 at *
        go_wp2_with fail
        refine (HBY.out w7 G7).mono ?_
        rintro e w8 ⟨v2, rfl, O8, K8⟩
        obtain ⟨a2, c2, rfl, P8, -⟩ := O8.rd
        have CN := HRX.out w8 a2 c2 K8 P8
        have G8 := grown_trans G7 K8
        have V8 := V7.kept K8
        clear O8 K8 G7 P8 HRX V7
        go_wp2_with fail
        refine CN.mono ?_
        rintro e w9 ⟨rfl, K9⟩
        have KA : w9.grownBy (w9.alloc (.cells #[.int .u32 (rv : Int), .int .i64 rf, .int .i64 (rs : Int)] 26)) none := World.grownBy_alloc _ _ _
        have U10 := VAt.alloc w9 26 #[.int .u32 (rv : Int), .int .i64 rf, .int .i64 (rs : Int)]
        have V10 := (V8.kept K9).kept KA
        have G10 := grown_trans (grown_trans G8 K9) KA
        clear CN K9 KA G8 V8
        go_upto_region 6 with fail
        generalize w9.alloc (.cells #[.int .u32 (rv : Int), .int .i64 rf, .int .i64 (rs : Int)] 26) = w10 at *
        generalize w9.heap.size = V2 at *
        have HVV : Hid (VAt w10 V 26 #[.int .u32 (rv : Int), .int .i64 rf, .int .i64 (rs : Int)] ∧ VAt w10 V2 26 #[.int .u32 (rv : Int), .int .i64 rf, .int .i64 (rs : Int)]) := ⟨V10, U10⟩
        clear V10 U10
        go_wp2
        go_loopw [12, 13] (fun s i wr => ∃ (k : Nat), k ≤ xs.length ∧ i = .int .i64 k ∧ s = .int .i64 (codeLen ((gOf xs).take k) : Int) ∧ Hid (VAt wr V 26 #[.int .u32 (rv : Int), .int .i64 rf, .int .i64 (rs : Int)] ∧ VAt wr V2 26 #[.int .u32 (rv : Int), .int .i64 rf, .int .i64 (rs : Int)]) ∧ w.grownBy wr none) (fun _ i _ => xs.length - (intOf i).toNat)
        case atStart => exact ⟨0, Nat.zero_le _, rfl, by simp [codeLen], HVV, G10⟩
        case round =>
          clear HVV G10
          obtain ⟨k, hk, rfl, rfl, HVV, G⟩ := hrel
          by_cases hlt : k < xs.length
          · have hl2 : (k : Int) < (xs.length : Int) := by omega
            have hk' : k < (gOf xs).length := by rw [gOf_len]; exact hlt
            have hcs := codeLen_succ hk'
            have hcl : codeLen ((gOf xs).take (k + 1)) ≤ 4096 := Nat.le_trans (codeLen_take _ _) HT.out.room
            rw [show (gOf xs)[k] = xs[k].b by simp [gOf]] at hcs
            obtain ⟨b1, o1, rfl, h1⟩ := ((H.out.keptNone G).1).blocks hlt
            have c0 := h1 k hlt 0 _ rfl
            rw [Nat.add_zero] at c0
            have HQ : Hid (codeLen ((gOf xs).take (k + 1)) = codeLen ((gOf xs).take k) + xs[k].b.code.length) := hcs
            have hb1 : codeLen ((gOf xs).take k) + xs[k].b.code.length ≤ 4096 := by omega
            clear h1 hcs hcl
            generalize codeLen ((gOf xs).take k) = S at *
            generalize xs[k] = x at *
            go_wp2
            go_roundw
            case rel =>
              refine ⟨k + 1, by omega, by go_num, ?_, HVV, G⟩
              rw [HQ.out]
              congr 1 <;> omega
            case measure => simp [intOf]; omega
          · have hl2 : ¬ (k : Int) < (xs.length : Int) := by omega
            have e0 : codeLen ((gOf xs).take k) = codeLen (gOf xs) := by rw [List.take_of_length_le (by rw [gOf_len]; omega)]
            rw [e0]
            obtain ⟨CL, hCL⟩ : ∃ c, codeLen (gOf xs) = c := ⟨_, rfl⟩
            rw [hCL]
            have HCL : Hid (codeLen (gOf xs) = CL) := hCL
            clear e0 hCL
            have y0 : wr.cell? ⟨V, 0, none⟩ = some (.int .u32 (rv : Int)) := HVV.out.1.cell 0
            have y1 : wr.cell? ⟨V, 1, none⟩ = some (.int .i64 rf) := HVV.out.1.cell 1
            have y2 : wr.cell? ⟨V, 2, none⟩ = some (.int .i64 (rs : Int)) := HVV.out.1.cell 2
            have u0 : wr.cell? ⟨V2, 0, none⟩ = some (.int .u32 (rv : Int)) := HVV.out.2.cell 0
            have u1 : wr.cell? ⟨V2, 1, none⟩ = some (.int .i64 rf) := HVV.out.2.cell 1
            have u2 : wr.cell? ⟨V2, 2, none⟩ = some (.int .i64 (rs : Int)) := HVV.out.2.cell 2
            by_cases hC : (4094 : Int) < (CL : Int)
            · have CA := awake15_any wr
              go_wp2_with fail
              refine CA.mono ?_
              rintro e wz ⟨rfl, KZ⟩
              have GZ := grown_trans G KZ
              clear CA
              go_wp2
              go_ret
              exact ⟨rfl, GZ⟩
            · have hcl2 : codeLen (gOf xs) ≤ 4094 := by rw [HCL.out]; omega
              have HC2 : Hid (codeLen (gOf xs) ≤ 4094) := hcl2
              clear hcl2
              go_wp2_with fail
              refine (HCP.out wr G).mono ?_
              rintro e w11 ⟨v11, ws, rfl, B11, hw, K11⟩
              have hwl := (HZL.out ws hw).2
              cases ws with
              | nil => simp at hwl; omega
              | cons z0 zr =>
                have G11 := grown_trans G K11
                have V11 := HVV.out.1.kept K11
                have hVb : V < wr.heap.size := HVV.out.1.lt
                obtain ⟨gy, cy, rfl, hx1, hx2, hx3, hx4⟩ := owns_head B11.1 (by simp)
                rw [hwl] at hx1 ⊢
                have hwy : w.heap.size ≤ gy := by have := G.size; omega
                have hVy : V ≠ gy := by omega
                have hc0' : 0 < xs.length := hn0
                have BR : w11.ownsRow wr.heap.size 38 8 (.slice (some ⟨gy, 0, none⟩) xs.length cy) xs.length (flatB (z0 :: zr)) := by
                  have := B11.1
                  rw [hwl] at this
                  exact this
                have I0 := B11.2.1 z0 (by simp)
                have HIR : Hid (∀ y ∈ zr, IOwns w11 wr.heap.size (.slice y.a y.b.code.length y.ca) y.b.code) := fun y hy => B11.2.1 y (by simp [hy])
                obtain ⟨a0, c0, hv0, hcv0, hl0, -, h00, -⟩ := cv_of_row I0
                simp only [Value.slice.injEq] at hv0
                obtain ⟨hae, -, hce⟩ := hv0
                have hn0c : z0.b.code.length ≤ 4096 := by
                  have h1 := HC2.out
                  have h2 : codeLen (gOf (z0 :: zr)) ≤ 4094 := by rw [hw]; exact h1
                  rw [show gOf (z0 :: zr) = z0.b :: gOf zr from rfl, codeLen_cons] at h2
                  omega
                have q0 : w11.cell? ⟨gy, 0, none⟩ = some (.slice z0.a z0.b.code.length z0.ca) := by
                  have := BR.cells (g := gy) rfl 0 (.slice z0.a z0.b.code.length z0.ca) rfl
                  rwa [Addr.add_lit, Nat.zero_add] at this
                have HW : Hid (gOf xs = z0.b :: gOf zr) := hw.symm
                rw [← hae] at hcv0 h00
                rw [← hce] at h00
                have HZL0 : Hid (∀ y ∈ zr, y.b.code.length ≤ 4611686018427387904) := fun y hy => (HZL.out (z0 :: zr) hw).1 y (by simp [hy])
                have HRL : Hid (zr.length + 1 = xs.length) := (by simpa using hwl : zr.length + 1 = xs.length)
                clear hae hce I0 B11 hw hwl K11 y0 y1 y2 u0 u1 u2 HVV G hc0' hx2
                have KL : w11.grownBy (w11.alloc (.cells #[.int .u16 0, .int .u8 0, .int .u8 0, .int .u32 (ku.toNat : Int), .int .u16 0, .int .u8 0, .int .u8 0, .int .u32 0] 35)) none := World.grownBy_alloc _ _ _
                have OL : (w11.alloc (.cells #[.int .u16 0, .int .u8 0, .int .u8 0, .int .u32 (ku.toNat : Int), .int .u16 0, .int .u8 0, .int .u8 0, .int .u32 0] 35)).ownsRow w11.heap.size 35 4 (.slice (some ⟨w11.heap.size, 0, none⟩) 2 2) 2 (flat [ldI ku, ldI 0]) := ⟨rfl, .inr ⟨w11.heap.size, 2, _, rfl, Nat.le_refl _, heap_alloc_new w11 _, Nat.le_refl _, by unfold maxLen; omega, rfl, rfl⟩⟩
                have q1 := KL.cell q0 (by simp)
                have BR2 := owns_keptNone BR KL
                have CV2 := hcv0.keptNone KL
                have V12 := V11.kept KL
                have G12 := grown_trans G11 KL
                have HIR2 : Hid (∀ y ∈ zr, IOwns (w11.alloc (.cells #[.int .u16 0, .int .u8 0, .int .u8 0, .int .u32 (ku.toNat : Int), .int .u16 0, .int .u8 0, .int .u8 0, .int .u32 0] 35)) wr.heap.size (.slice y.a y.b.code.length y.ca) y.b.code) := fun y hy => owns_keptNone (HIR.out y hy) KL
                have HLT : Hid (∀ y ∈ zr, ∀ z, (Value.slice y.a y.b.code.length y.ca).ownBlock = some z → z < w11.heap.size) := fun y hy z hz => ((HIR.out y hy).lt z hz).2
                have hbr := hx4
                have hw11 : wr.heap.size ≤ w11.heap.size := Nat.le_of_lt (Nat.lt_of_le_of_lt hx3 hx4)
                clear BR hcv0 V11 HIR q0
                go_wp2_with (at_builtin; refine wpList_append_cv rfl (.tmp 77) (.tmp 81) 36 rfl 35 j0 _ 4 8 Try.underlying36 hj jz0 jz1 jz2 rfl (by decide) w11.heap.size _ 2 (flat [ldI ku, ldI 0]) rfl ?r1 z0.a z0.b.code.length z0.ca (flat z0.b.code) rfl ?r2 h00 ?r3 (flat_one _) ?r4 ?r5 ?r6 ?r7)
                case r1 => exact OL
                case r2 => rw [flat_len]
                case r3 => exact CV2
                case r4 => unfold maxLen; omega
                case r5 => omega
                case r6 => exact KL.size
                case r7 =>
                  intro v13 w13 O13 K13
                  obtain ⟨g3, c3, rfl, hc3, hcm3, hg3, hg4⟩ := owns_head O13 (by omega)
                  have BR3 := BR2.kept K13 (.inr (by simp only [Value.ownBlock, ne_eq, Option.some.injEq]; omega))
                  have V13 := V12.grown K13 (by simp only [Value.ownBlock, ne_eq, Option.some.injEq]; omega)
                  have G13 := grown_trans_new G12 K13 (fun z e => by cases e; have := G11.size; omega)
                  have HIR3 : Hid (∀ y ∈ zr, IOwns w13 wr.heap.size (.slice y.a y.b.code.length y.ca) y.b.code) := fun y hy => (HIR2.out y hy).kept K13 (by
                    cases hq : (Value.slice y.a y.b.code.length y.ca).ownBlock with
                    | none => exact .inl rfl
                    | some z => exact .inr (fun e => by have h1 := HLT.out y hy z hq; simp only [Value.ownBlock, Option.some.injEq] at e; omega))
                  have q3 := K13.cell q1 (by simp only [Value.ownBlock, ne_eq, Option.some.injEq]; omega)
                  have f3 := BR3.frozenAt 0
                  have K14 := grown_set1 w13 ⟨gy, 0, none⟩ (.slice (some ⟨g3, 0, none⟩) (2 + z0.b.code.length) c3)
                  have hset : (flatB (z0 :: zr)).set 0 (.slice (some ⟨g3, 0, none⟩) (2 + z0.b.code.length) c3) = flatB (⟨twoB ku z0.b, some ⟨g3, 0, none⟩, c3⟩ :: zr) := by
                    rw [flatB_cons, flatB_cons, show 2 + z0.b.code.length = (twoB ku z0.b).code.length by simp only [twoB, List.length_cons]; omega]
                    rfl
                  have BR4 := (World.ownsRow.stored BR3 0 (.slice (some ⟨g3, 0, none⟩) (2 + z0.b.code.length) c3)).1
                  rw [hset] at BR4
                  have O14 := kinds15 O13 BR3 (by decide) K14
                  have HIR4 : Hid (∀ y ∈ zr, IOwns (w13.setCell ⟨gy, 0, none⟩ (.slice (some ⟨g3, 0, none⟩) (2 + z0.b.code.length) c3)) wr.heap.size (.slice y.a y.b.code.length y.ca) y.b.code) := fun y hy => kinds15 (HIR3.out y hy) BR3 (by decide) K14
                  have V14 := V13.grown K14 (by simpa using Ne.symm hVy)
                  have G14 := grown_trans_new G13 K14 (fun z e => by cases e; exact hwy)
                  have hi0 : (0 : Int) < (xs.length : Int) := by omega
                  clear hset BR2 CV2 V12 G12 HIR2 HLT OL KL O13 K13 V13 G13 HIR3 G11
                  go_upto_region 17 with fail
                  generalize w13.setCell ⟨gy, 0, none⟩ (.slice (some ⟨g3, 0, none⟩) (2 + z0.b.code.length) c3) = w14 at *
                  clear q1 q3 f3 K14 BR3
                  have GY : GC w14 (some ⟨gy, 0, none⟩) (⟨twoB ku z0.b, some ⟨g3, 0, none⟩, c3⟩ :: zr) := by
                    obtain ⟨ao, cap, hv, hc, -⟩ := cv_of_row BR4
                    simp only [Value.slice.injEq] at hv
                    obtain ⟨rfl, -, rfl⟩ := hv
                    refine ⟨hc, fun y hy => ?_⟩
                    rcases List.mem_cons.1 hy with rfl | hy
                    · obtain ⟨a2, d2, hv2, hc2, hl2, -, h02, -⟩ := cv_of_row O14
                      simp only [Value.slice.injEq] at hv2
                      obtain ⟨rfl, -, rfl⟩ := hv2
                      exact ⟨hc2, by show z0.b.code.length + 1 + 1 ≤ c3; omega, h02⟩
                    · obtain ⟨a2, d2, hv2, hc2, hl2, -, h02, -⟩ := cv_of_row (HIR4.out y hy)
                      simp only [Value.slice.injEq] at hv2
                      obtain ⟨rfl, -, rfl⟩ := hv2
                      exact ⟨hc2, hl2, h02⟩
                  have HRX : Hid (∀ W b' d', w14.grownBy W none → Cells W b' pk → Calls Try.prog 4 #[.slice (some ⟨gy, 0, none⟩) xs.length cy, .slice b' pk.length d'] W fun e w' => e = .returned (.tuple #[.agg #[.int .u32 (rv : Int), .int .i64 rf, .int .i64 ((rs : Int) + 2)], .int .i64 0]) ∧ W.grownBy w' none) := fun W b' d' GW hc => by
                    have h := grun_any (some ⟨gy, 0, none⟩) b' cy d' (⟨twoB ku z0.b, some ⟨g3, 0, none⟩, c3⟩ :: zr) pk W (GY.keptNone GW) (fun y hy => by
                      rcases List.mem_cons.1 hy with rfl | hy
                      · show z0.b.code.length + 1 + 1 ≤ _
                        omega
                      · exact HZL0.out y hy) hc (by omega)
                    obtain ⟨t1, t2⟩ := HTR.out ku z0.b (gOf zr) HW.out HC2.out
                    rw [show gOf (⟨twoB ku z0.b, some ⟨g3, 0, none⟩, c3⟩ :: zr) = twoB ku z0.b :: gOf zr from rfl, t1, t2, List.length_cons, HRL.out] at h
                    simp only [GEnd] at h
                    rw [show ((2 + rs : Nat) : Int) = (rs : Int) + 2 by omega] at h
                    exact h
                  clear GY BR4 O14 HIR4 HTR
                  go_wp2_with fail
                  refine (HBY.out w14 G14).mono ?_
                  rintro e w15 ⟨v2, rfl, O15, K15⟩
                  obtain ⟨a2, c2, rfl, P15, -⟩ := O15.rd
                  have CN := HRX.out w15 a2 c2 K15 P15
                  have G15 := grown_trans G14 K15
                  have V15 := V14.kept K15
                  clear O15 K15 G14 P15 HRX V14
                  go_wp2_with fail
                  refine CN.mono ?_
                  rintro e w16 ⟨rfl, K16⟩
                  have KA : w16.grownBy (w16.alloc (.cells #[.int .u32 (rv : Int), .int .i64 rf, .int .i64 ((rs : Int) + 2)] 26)) none := World.grownBy_alloc _ _ _
                  have U17 := VAt.alloc w16 26 #[.int .u32 (rv : Int), .int .i64 rf, .int .i64 ((rs : Int) + 2)]
                  have V16 := V15.kept K16
                  have hVV : V < w16.heap.size := V16.lt
                  have V17 := V16.kept KA
                  have G17 := grown_trans (grown_trans G15 K16) KA
                  clear CN K16 KA G15 V15 V16
                  go_upto_region 18 with fail
                  generalize w16.alloc (.cells #[.int .u32 (rv : Int), .int .i64 rf, .int .i64 ((rs : Int) + 2)] 26) = w17 at *
                  generalize w16.heap.size = V3 at *
                  have y2 : w17.cell? ⟨V, 2, none⟩ = some (.int .i64 (rs : Int)) := V17.cell 2
                  have f2 := V17.free 2
                  have V18 : VAt (w17.setCell ⟨V, 2, none⟩ (.int .i64 ((rs : Int) + 2))) V 26 #[.int .u32 (rv : Int), .int .i64 rf, .int .i64 ((rs : Int) + 2)] := V17.set 2 _
                  have U18 := U17.setOther (k := V) (i := 2) (.int .i64 ((rs : Int) + 2)) (by omega)
                  have G18 := grown_trans_new G17 (grown_set1 w17 ⟨V, 2, none⟩ (.int .i64 ((rs : Int) + 2))) (fun z e => by cases e; exact hwV)
                  clear U17 V17 G17
                  go_upto_region 19 with fail
                  generalize w17.setCell ⟨V, 2, none⟩ (.int .i64 ((rs : Int) + 2)) = w18 at *
                  clear y2 f2
                  have y0 : w18.cell? ⟨V, 0, none⟩ = some (.int .u32 (rv : Int)) := V18.cell 0
                  have y1 : w18.cell? ⟨V, 1, none⟩ = some (.int .i64 rf) := V18.cell 1
                  have y2 : w18.cell? ⟨V, 2, none⟩ = some (.int .i64 ((rs : Int) + 2)) := V18.cell 2
                  have u0 : w18.cell? ⟨V3, 0, none⟩ = some (.int .u32 (rv : Int)) := U18.cell 0
                  have u1 : w18.cell? ⟨V3, 1, none⟩ = some (.int .i64 rf) := U18.cell 1
                  have u2 : w18.cell? ⟨V3, 2, none⟩ = some (.int .i64 ((rs : Int) + 2)) := U18.cell 2
                  clear V18 U18
                  have CA := awake15_any w18
                  go_wp2_with fail
                  refine CA.mono ?_
                  rintro e wz ⟨rfl, KZ⟩
                  have GZ := grown_trans G18 KZ
                  clear CA KZ G18 y0 y1 y2 u0 u1 u2
                  go_wp2
                  go_ret
                  exact ⟨rfl, GZ⟩
  · have hEb : (E != 0) = true := by rw [bne_iff_ne]; exact hE0
    have CA := awake15_any w4
    go_wp2_with fail
    refine CA.mono ?_
    rintro e wz ⟨rfl, KZ⟩
    have GZ := grown_trans G4 KZ
    clear CA
    go_wp2
    go_ret
    exact ⟨rfl, GZ⟩

set_option maxRecDepth 100000 in
theorem lifted (os : Os) (started : os.Started) (H : Type) (enc : TypeId × Value → H) :
    ReturnsInHanded {} Try.checked os 3 .any (Rows.graphBehindSpec.pre6 enc Try.prog Try.f3 Rows.graphBehindRow.domain false) (Rows.graphBehindSpec.post enc Try.prog Try.f3 false true false false) := by
  refine returnsInHanded_of_change_sized (C := Try.checked) own started (by kernel_rfl) Try.func3
    (ChangeSpec.witness6 (enc := enc) (C := Try.checked) false ⟨#[], #[.slice none 0 0, .slice none 0 0, .int .u32 0], []⟩ 8 (by kernel_rfl) (by kernel_rfl) (by kernel_rfl) (by kernel_rfl)) ?_
  intro W base args ds gs before hval0 hW hcnd hsz0 _
  have hsz : (DataW.weightsEach Try.prog (Try.f3.params.toList ++ Rows.graphBehindSpec.plain.varTypes Try.prog) (ds ++ gs)).all (· ≤ reachBytes) = true := hsz0
  have hval : ∀ (j : Nat) t v, Try.f3.params[j]? = some t → args[j]? = some v → Value.okWide Try.prog W .any base t v := hval0
  have hW' := hW
  obtain ⟨p, q, hA0, hV, rfl, hfz, hnd⟩ := hW
  have hA : DataW.TrodAll enc Try.prog W 0 (fun _ => true) true Try.f3.params.toList args.toList ds p := hA0
  rw [Try.params3] at hA hval hsz
  obtain ⟨v0, vs0, d0, ds0, p0, q0, hargs, rfl, rfl, h0, r0⟩ := trodAll_cons hA
  obtain ⟨v1, vs1, d1, ds1, p1, q1, rfl, rfl, rfl, h1, r1⟩ := trodAll_cons r0
  obtain ⟨v2, vs2, d2, ds2, p2, q2, rfl, rfl, rfl, h2, r2⟩ := trodAll_cons r1
  obtain ⟨rfl, rfl, rfl⟩ := trodAll_nil r2
  obtain rfl : args = #[v0, v1, v2] := by cases args; simp_all
  obtain ⟨rfl, rfl⟩ := trodVars_none hV
  obtain ⟨a0, len0, cap0, rfl⟩ := okWide_slice Try.underlying22 (hval 0 22 v0 rfl rfl)
  have k0 := h0
  have lt0 : ∀ x ∈ p0, x.block < W.heap.size := by obtain ⟨m, hm⟩ := k0; exact DataW.trod_lt m _ _ _ hm
  obtain ⟨xs0, rfl, hgc0, hnil0, hcp0, hdat0⟩ := open_blocks h0
  have hlen0 := sized_blocks hsz (j := 0) rfl rfl hdat0
  obtain ⟨a1, len1, cap1, rfl⟩ := okWide_slice Try.underlying23 (hval 1 23 v1 rfl rfl)
  have k1 := h1
  have lt1 : ∀ x ∈ p1, x.block < W.heap.size := by obtain ⟨m, hm⟩ := k1; exact DataW.trod_lt m _ _ _ hm
  obtain ⟨xs1, rfl, hcells1, hnil1, hdat1⟩ := open_bytes Try.underlying23 Try.underlying5 (by kernel_rfl) h1
  obtain ⟨y2, rfl, rfl, rfl, w2⟩ := open_int Try.underlying24 (hval 2 24 v2 rfl rfl) h2
  have bd2 := bounds_u32 w2
  obtain ⟨x2, rfl⟩ := Int.eq_ofNat_of_zero_le bd2.1
  have hv2 : x2 ≤ 4294967295 := by omega
  have hlen1 : xs1.length * 1 ≤ 140737488351232 := by
    rcases hdat1 with ⟨_, rfl⟩ | ⟨elems, spare, rfl, hle⟩
    · simp
    · have := sized_slice hsz (j := 1) (t := 23) (e := 5) rfl rfl Try.underlying23
      rw [bytes5] at this
      unfold reachBytes at this
      omega
  clear hA0 hval0
  refine (walk a0 cap0 xs0 a1 cap1 xs1 x2 W hgc0 hnil0 hcp0.1 hcp0.2 hlen0.1 hlen0.2 hcells1 hnil1 (by omega) hv2).mono fun e W' ⟨he, hg⟩ => ?_
  subst he
  have bel : Below W.heap.size W W' := (Below.refl _ _).grown hg (Nat.le_refl _) (by simp)
  exact ⟨_, rfl, _, _, _, [], _, [], hW', trodAll_mk1 (shut_bool Try.underlying4 _), (trodAll_cons_mk (Below.trod laidOut (by kernel_rfl) (of_decide_eq_true (by kernel_rfl)) k0 bel lt0) (trodAll_cons_mk (Below.trod laidOut (by kernel_rfl) (of_decide_eq_true (by kernel_rfl)) k1 bel lt1) (trodAll_cons_mk (shut_int Try.underlying24 w2) trodAll_mk0))), rfl, bel.frame _, fun h => by cases h⟩

theorem over : Rows.GraphBehindSaid :=
  OpenClaim.holds_of_wide 3 Try.f3 rfl rfl rfl rfl rfl rfl rfl ⟨rfl, rfl, rfl, rfl, rfl⟩ rfl rfl rfl rfl rfl (by kernel_rfl) Try.func3 (by kernel_rfl)
    (of_decide_eq_true (by kernel_rfl)) (by unfold Func.isWrapper; first | (rw [if_pos (by decide +kernel)]; kernel_rfl) | (rw [if_neg (by decide +kernel)]; exact ⟨rfl, rfl⟩))
    (fun os started H enc _ => lifted os started H enc)

end graphBehind

theorem graphBehind_holds : Rows.GraphBehindSaid := graphBehind.over
#print axioms graphBehind_holds

end Go.Proofs.Ytpoleldfoahpoab
