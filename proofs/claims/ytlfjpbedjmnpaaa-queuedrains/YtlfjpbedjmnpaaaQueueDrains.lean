/-
  Drain of one queue tells what Take of another one, filled alike, tells one by one; both are empty then, and may be filled again.
-/
import Derived.Test.YtlfjpbedjmnpaaaQuD2
import Derived.Test.YtlfjpbedjmnpaaaQuY3
import Derived.Test.YtlfjpbedjmnpaaaOpenQ
import Derived.Deep.DeepCutAuto
namespace Go.Proofs.Ytlfjpbedjmnpaaa
open Go.ChangeShapes Go.WideShapes Go.ChangeAt Go.RowKit
set_option maxRecDepth 100000
namespace queueDrains

theorem new_n {zs : List Int} (h : newB zs = true) : 1 ≤ zs.length ∧ zs.length ≤ 17 := by
  unfold newB at h
  simp only [Bool.and_eq_true, decide_eq_true_eq] at h
  exact h.1

theorem zsame_len (a b : Option Addr) (ca cb n : Nat) (xs : List Int) (hn : xs.length = n) (w : World) (ha : CV w a (xs.map iv)) (hb : CV w b (xs.map iv)) (hm : n ≤ 9223372036854775807) :
    Calls Try.prog 20 #[.slice a n ca, .slice b n cb] w fun e w' => e = .returned (.bool true) ∧ ∃ n, w' = w.drewN n := by
  subst hn
  exact zsame_any a b ca cb xs w ha hb hm

theorem step_makeW {P : Program} {ops : Array Oper} {o : Oper} {a : Act} {w : World} {K : Act → World → Prop} {Q : Exit → Act → World → Prop} {E : Prop}
    (hw : Region.wanted o (yielded ops a.tmps) = true) (l : Operand) (t : TypeId) (hop : o.op = Op.makeSlice t l l)
    (base : Nat) (e : TypeId) (i : TypeInfo) (z : Value) (size : Nat) (h1 : P.underlying t = some (.slice e)) (h2 : P.info? e = some i) (h3 : i.zero = some z) (h4 : i.size = size)
    (n : Nat) (hl : a.eval l = .int .i64 (n : Int)) (b2 : i.bytes * n ≤ 281474976710656) (b3 : n ≤ maxLen) (b4 : base ≤ w.heap.size)
    (hK : ∀ g w', w'.ownsRow base e size (.slice (some ⟨g, 0, none⟩) n n) n (madeCells z.cells (n * size)).toList → w.grownBy w' none → K (a.put o.dst (.slice (some ⟨g, 0, none⟩) n n)) w') :
    if Region.wanted o (yielded ops a.tmps) = true then Oper.wp P o a w K Q else E := by
  rw [if_pos hw]
  obtain ⟨w', hrun, r1, r2⟩ := run_make_full (P := P) w base t e i z size h1 h2 h3 h4 .i64 .i64 n b2 b3 b4
  unfold Oper.wp
  simp [execOp, hop, hl, hrun, Result.andThen]
  exact hK _ _ r1 r2

/-- While what was drained is held against what is taken. -/
structure DrK (W wr : World) (gp gq N : Nat) (p : Lq) (v : Value) (fs : List Fr) (cs : List Qc) (k : Nat) (q : Lq) (ds : List Qc) : Prop where
  duo : Duo W wr gp gq p q (cs.map Qc.clear) ds
  row : wr.ownsRow W.heap.size 35 1 v fs.length (fs.map Fr.v)
  own : ∀ f ∈ fs, Owns wr W.heap.size f.v f.b
  nv : ∀ x, v.ownBlock = some x → ¬ q.foot x
  nf : ∀ f ∈ fs, ∀ x, f.v.ownBlock = some x → ¬ q.foot x
  left : allP ds = (fs.map Fr.b).drop k
  clr : ds.map Qc.clear = cs.map Qc.clear
  len : cs.length = N

theorem DrK.kept {W wr w2 : World} {gp gq N k : Nat} {p q : Lq} {v : Value} {fs : List Fr} {cs ds : List Qc} (h : DrK W wr gp gq N p v fs cs k q ds) (K : wr.grownBy w2 none) : DrK W w2 gp gq N p v fs cs k q ds :=
  ⟨h.duo.kept K, owns_keptNone h.row K, fun f hf => owns_keptNone (h.own f hf) K, h.nv, h.nf, h.left, h.clr, h.len⟩

set_option maxHeartbeats 8000000 in
theorem walk (a0 : Option Addr) (cap0 : Nat) (zs : List Int) (a1 : Option Addr) (cap1 : Nat) (ps : List Int) (W : World) (hc0 : CV W a0 (zs.map (Value.int .i64))) (hn0 : a0 = none → cap0 = 0) (hl0 : zs.length * 8 ≤ 140737488351232) (hc1 : CV W a1 (ps.map (Value.int .i64))) (_hn1 : a1 = none → cap1 = 0) (hl1 : ps.length * 8 ≤ 140737488351232) :
    Calls Try.prog 5 #[.slice a0 zs.length cap0, .slice a1 ps.length cap1] W fun e w' => e = .returned (.bool true) ∧ W.grownBy w' none := by
  have H0 : Hid (CV W a0 (zs.map iv) ∧ (a0 = none → cap0 = 0) ∧ zs.length * 8 ≤ 140737488351232) := ⟨hc0, hn0, hl0⟩
  have H1 : Hid (CV W a1 (ps.map iv)) := hc1
  have CC := zcopy_any a0 cap0 zs W hc0 hn0 (by omega)
  clear hc0 hn0 hc1
  go_enter Try.func5, Try.ntmps5
  go_wp2_with fail
  refine CC.mono ?_
  rintro e w1 ⟨vc, rfl, OC, K1⟩
  clear CC
  obtain ⟨ac, cc, hvc, C1, -⟩ := CV.ofRow OC
  subst hvc
  have CN := lnew_any ac cc zs w1 C1 (by omega)
  have HK1 : Hid (W.grownBy w1 none) := K1
  clear OC C1 K1
  go_wp2_with fail
  refine CN.mono ?_
  rintro e w2 ⟨K2, hN⟩
  clear CN
  have K02 := grown_trans HK1.out K2
  have CC := zcopy_any a0 cap0 zs w2 (H0.out.1.keptNone K02) H0.out.2.1 (by omega)
  rcases hN with ⟨hbd, rfl⟩ | ⟨hgood, p, rfl, L, hpa⟩
  · have HK2 : Hid (W.grownBy w2 none) := K02
    clear K2 HK1 K02
    go_wp2_with fail
    refine CC.mono ?_
    rintro e w3 ⟨vd, rfl, OD, K3⟩
    clear CC
    obtain ⟨ad, cd, hvd, C3, -⟩ := CV.ofRow OD
    subst hvd
    have CN := lnew_any ad cd zs w3 C3 (by omega)
    have HK3 : Hid (W.grownBy w3 none) := grown_trans HK2.out K3
    clear OD C3 K3 HK2
    go_wp2_with fail
    refine CN.mono ?_
    rintro e w4 ⟨K4, hN⟩
    clear CN
    rcases hN with ⟨-, rfl⟩ | ⟨hgd, -⟩
    · have HK4 : Hid (W.grownBy w4 none) := grown_trans HK3.out K4
      clear K4 HK3 hbd
      go_wp2_with fail
      refine (awake21_any w4).mono ?_
      rintro e w5 ⟨rfl, K5⟩
      have HK5 : Hid (W.grownBy w5 none) := grown_trans HK4.out K5
      clear K5 HK4
      go_wp2
      go_ret
      exact ⟨rfl, HK5.out⟩
    · rw [hbd] at hgd
      cases hgd
  · have HP : Hid (LqAt w2 W.heap.size p ∧ p.abs = newP zs ∧ W.grownBy w2 none) := ⟨L.mono HK1.out.size, hpa, K02⟩
    obtain ⟨gp, hgp⟩ : ∃ g, p.g = g := ⟨_, rfl⟩
    have HGP : Hid (p.g = gp) := hgp
    rw [hgp]
    clear L hpa K2 K02 HK1 hgp
    go_wp2_with fail
    refine CC.mono ?_
    rintro e w3 ⟨vd, rfl, OD, K3⟩
    clear CC
    obtain ⟨ad, cd, hvd, C3, -⟩ := CV.ofRow OD
    subst hvd
    have CN := lnew_any ad cd zs w3 C3 (by omega)
    have HK3 : Hid (w2.grownBy w3 none) := K3
    clear OD C3 K3
    go_wp2_with fail
    refine CN.mono ?_
    rintro e w4 ⟨K4, hN⟩
    clear CN
    rcases hN with ⟨hbd, -⟩ | ⟨-, q, rfl, L, hqa⟩
    · rw [hgood] at hbd
      cases hbd
    · have D0 := Duo.new HP.out.1 HP.out.2.1 HK3.out K4 L hqa HP.out.2.2
      rw [HGP.out] at D0
      obtain ⟨gq, hgq⟩ : ∃ g, q.g = g := ⟨_, rfl⟩
      rw [hgq] at D0 ⊢
      obtain ⟨hN1, hN2⟩ := new_n hgood
      have HD0 : Hid (Duo W w4 gp gq p q (newP zs) (newP zs)) := D0
      clear D0 HP HGP HK3 K4 L hqa hgq hgood
      by_cases hlong : 250 < ps.length
      · have hl2 : (250 : Int) < (ps.length : Int) := by omega
        have HK : Hid (W.grownBy w4 none) := HD0.out.gw
        clear HD0 hlong
        go_wp2_with fail
        refine (awake21_any w4).mono ?_
        rintro e w5 ⟨rfl, K5⟩
        have HK5 : Hid (W.grownBy w5 none) := grown_trans HK.out K5
        clear K5 HK
        go_wp2
        go_ret
        exact ⟨rfl, HK5.out⟩
      · have hl2 : ¬ (250 : Int) < (ps.length : Int) := by omega
        obtain ⟨N, hN⟩ : ∃ N, zs.length = N := ⟨_, rfl⟩
        have hcl : (newP zs).length = N := by rw [← hN]; simp [newP]
        have hok0 : ∀ b ∈ allP (newP zs), b.length ≤ 65535 := by
          intro b hb
          obtain ⟨c, hc, hx⟩ := List.mem_flatMap.1 hb
          obtain ⟨z, _, rfl⟩ := List.mem_map.1 hc
          cases hx
        have HI : Hid (∃ cs, Duo W w4 gp gq p q cs cs ∧ cs.length = N ∧ ∀ b ∈ allP cs, b.length ≤ 65535) := ⟨_, HD0.out, hcl, hok0⟩
        have hzne : ¬ zs = [] := by intro e; subst e; simp at hN1
        clear HD0 hcl hok0
        rw [hN] at hN1 hN2
        go_wp2
        go_loopw [9] (fun i wo => ∃ r : Nat, r ≤ 2 ∧ i = .int .i64 r ∧ ∃ p q cs, Duo W wo gp gq p q cs cs ∧ cs.length = N ∧ ∀ b ∈ allP cs, b.length ≤ 65535) (fun i _ => 2 - (intOf i).toNat)
        case atStart =>
          obtain ⟨cs, h⟩ := HI.out
          exact ⟨0, by omega, rfl, p, q, cs, h⟩
        case round =>
          clear HI p q
          obtain ⟨rr, hrr, rfl, p, q, cs, D, hcl, hok⟩ := hrel
          obtain ⟨wo, hwo⟩ : ∃ wo : World, wo = wr := ⟨_, rfl⟩
          subst hwo
          by_cases hr2 : rr < 2
          · have hri : (rr : Int) < 2 := by omega
            have HD : Hid (Duo W wo gp gq p q cs cs ∧ cs.length = N ∧ ∀ b ∈ allP cs, b.length ≤ 65535) := ⟨D, hcl, hok⟩
            clear D hcl hok
            go_wp2
            go_loopw [10] (fun i wi => ∃ k : Nat, k ≤ ps.length ∧ i = .int .i64 k ∧ ∃ p q cs, Duo W wi gp gq p q cs cs ∧ cs.length = N ∧ ∀ b ∈ allP cs, b.length ≤ 65535) (fun i _ => ps.length - (intOf i).toNat)
            case atStart => exact ⟨0, Nat.zero_le _, rfl, p, q, cs, HD.out⟩
            case round =>
              clear HD p q cs
              obtain ⟨k, hk, rfl, p, q, cs, D, hcl, hok⟩ := hrel
              by_cases hlt : k < ps.length
              · obtain ⟨b, o, rfl, hc⟩ := H1.out.ints hlt
                have c0 := D.gw.cell (hc k hlt) (by simp)
                have hli : (k : Int) < (ps.length : Int) := by omega
                have hmt : (lowV ps[k] : Int) % (N : Int) = (atN ps[k] N : Int) := by unfold atN; omega
                have hmn : atN ps[k] N < N := atN_lt _ hN1
                have HD : Hid (Duo W wr gp gq p q cs cs ∧ cs.length = N ∧ ∀ b ∈ allP cs, b.length ≤ 65535) := ⟨D, hcl, hok⟩
                clear hc D hcl hok
                have CL := low_any ps[k] wr
                generalize hzk : ps[k] = z at *
                generalize hmz : atN z N = m at *
                clear hzk hmz
                have hk3 : k < 251 := by omega
                obtain ⟨B, hB⟩ : ∃ B : List UInt8, B = [UInt8.ofNat k, UInt8.ofNat m] := ⟨_, rfl⟩
                have hBc : (B.map bv).toArray = #[.int .u8 (k : Int), .int .u8 (m : Int)] := by
                  rw [hB]
                  simp [bv]
                  omega
                have hBl : B.length = 2 := by rw [hB]; rfl
                have CP := HD.out.1.put (m : Int) B
                rw [hBc, hBl] at CP
                have HB : Hid ((B.map bv).toArray = #[.int .u8 (k : Int), .int .u8 (m : Int)] ∧ B.length = 2) := ⟨hBc, hBl⟩
                obtain ⟨ok, hok⟩ : ∃ ok, putB cs (m : Int) B = ok := ⟨_, rfl⟩
                obtain ⟨er, her⟩ : ∃ er, putE cs (m : Int) B = er := ⟨_, rfl⟩
                rw [hok, her] at CP
                have HE : Hid (putB cs (m : Int) B = ok ∧ putE cs (m : Int) B = er) := ⟨hok, her⟩
                clear hB hBc hBl hok her
                go_wp2_with fail
                refine CL.mono ?_
                rintro e wl ⟨rfl, rfl⟩
                clear CL c0
                go_wp2_with fail
                refine CP.mono ?_
                rintro e w5 ⟨rfl, p', D5⟩
                clear CP
                have CP := D5.swap.put (m : Int) B
                rw [HB.out.1, HB.out.2, HE.out.1, HE.out.2] at CP
                clear D5
                go_wp2_with fail
                refine CP.mono ?_
                rintro e w6 ⟨rfl, q', D6⟩
                have HF : Hid (Duo W w6 gp gq p' q' (putP cs (m : Int) B) (putP cs (m : Int) B) ∧ (putP cs (m : Int) B).length = N ∧ ∀ b ∈ allP (putP cs (m : Int) B), b.length ≤ 65535) := ⟨D6.swap, by rw [put_len]; exact HD.out.2.1, put_ok cs _ B HD.out.2.2⟩
                clear CP D6 HD HB HE
                generalize putP cs (m : Int) B = cs' at *
                go_wp2
                go_roundw
                case rel => exact ⟨k + 1, by omega, by go_num, p', q', cs', HF.out⟩
                case measure => simp [intOf]; omega
              · obtain rfl : k = ps.length := by omega
                have HD : Hid (Duo W wr gp gq p q cs cs ∧ cs.length = N ∧ ∀ b ∈ allP cs, b.length ≤ 65535) := ⟨D, hcl, hok⟩
                have CX := lqdrain_any W.heap.size p wr D.a
                rw [D.ga] at CX
                clear D hcl hok
                go_wp2_with fail
                refine CX.mono ?_
                rintro e w5 ⟨v, fs, p', rfl, hfs, hpg, hpc, L, G, F, DD⟩
                clear CX
                have D5 : Duo W w5 gp gq p' q (cs.map Qc.clear) cs := HD.out.1.step L hpg (by rw [hpc, HD.out.1.ca]) G F
                obtain ⟨R1, R2, R3, R4, R5⟩ := DD
                have hWr : W.heap.size ≤ wr.heap.size := HD.out.1.gw.size
                have K5 : DrK W w5 gp gq N p' v fs cs 0 q cs := by
                  refine ⟨D5, owns_mono R1 hWr, R2, fun x hx hq => ?_, fun f hf x hx hq => ?_, ?_, rfl, HD.out.2.1⟩
                  · have h1 := (R1.lt x hx).1
                    have h2 := (HD.out.1.b.lt x hq).2
                    omega
                  · rcases (R4 x (List.mem_flatMap.2 ⟨f, hf, mem_gf1.2 hx⟩)).1 with h1 | h1
                    · exact HD.out.1.dis x h1 hq
                    · have := (HD.out.1.b.lt x hq).2
                      omega
                  · rw [hfs, HD.out.1.ca]
                    rfl
                have hfl : fs.length ≤ 17 * 1024 := by
                  have h1 := congrArg List.length hfs
                  rw [List.length_map] at h1
                  have h2 := fr_count (cs := p.cs) (fun d hd => (HD.out.1.a.dep d hd).2.1)
                  have h3 := HD.out.1.a.few
                  have h4 : (allP p.abs).length = (p.cs.flatMap Cq.fs).length := by
                    have := congrArg List.length (fr_all p.cs)
                    rw [List.length_map] at this
                    exact this.symm
                  omega
                have HK : Hid (DrK W w5 gp gq N p' v fs cs 0 q cs ∧ ∀ f ∈ fs, f.b.length ≤ 65535) := ⟨K5, fun f hf => HD.out.2.2 _ (by rw [← HD.out.1.ca, ← hfs]; exact List.mem_map_of_mem hf)⟩
                obtain ⟨va, vc, hv⟩ : ∃ (a : Option Addr) (c : Nat), v = .slice a fs.length c := by
                  obtain ⟨a, c, hv, -⟩ := CV.ofRow R1
                  exact ⟨a, c, hv⟩
                subst hv
                clear hfs hpg hpc L G F D5 R1 R2 R3 R4 R5 hWr K5 HD
                go_wp2
                go_loopw [17] (fun i wj => ∃ k : Nat, k ≤ fs.length ∧ i = .int .i64 k ∧ ∃ q ds, DrK W wj gp gq N p' (.slice va fs.length vc) fs cs k q ds) (fun i _ => fs.length - (intOf i).toNat)
                case atStart => exact ⟨0, Nat.zero_le _, rfl, q, cs, HK.out.1⟩
                case round =>
                  have HL : Hid (∀ f ∈ fs, f.b.length ≤ 65535) := HK.out.2
                  clear HK q
                  obtain ⟨j, hj, rfl, q, ds, K⟩ := hrel
                  have CT := lqtake_any W.heap.size q wr K.duo.b
                  rw [K.duo.gb] at CT
                  have HK : Hid (DrK W wr gp gq N p' (.slice va fs.length vc) fs cs j q ds) := K
                  by_cases hjl : j < fs.length
                  · have hlj : (j : Int) < (fs.length : Int) := by omega
                    have hleft : allP ds = fs[j].b :: (fs.map Fr.b).drop (j + 1) := by
                      rw [K.left, List.drop_eq_getElem_cons (by rw [List.length_map]; exact hjl), List.getElem_map]
                    obtain ⟨n, ds', ht, hd1, hd2⟩ := take_some_of hleft
                    have HT : Hid (takeP ds = some (n, fs[j].b, ds') ∧ allP ds' = (fs.map Fr.b).drop (j + 1) ∧ ds'.map Qc.clear = ds.map Qc.clear) := ⟨ht, hd1, hd2⟩
                    clear hleft ht hd1 hd2 K
                    go_wp2_with fail
                    refine CT.mono ?_
                    rintro e w6 T
                    clear CT
                    rcases T with ⟨t0, -⟩ | ⟨m, u, b, q', t0, rfl, L, hg, G, F, O, hp⟩
                    · rw [HK.out.duo.cb, HT.out.1] at t0
                      cases t0
                    · rw [HK.out.duo.cb, HT.out.1] at t0
                      simp only [Option.some.injEq, Prod.mk.injEq] at t0
                      obtain ⟨rfl, rfl, hab⟩ := t0
                      have D6 := (HK.out.duo.swap.step L hg hab.symm G F).swap
                      have R6 : w6.ownsRow W.heap.size 35 1 (.slice va fs.length vc) fs.length (fs.map Fr.v) := G.row HK.out.row (fun x hx hq => HK.out.nv x hx hq)
                      have O6 : ∀ f ∈ fs, Owns w6 W.heap.size f.v f.b := fun f hf => G.row (HK.out.own f hf) (fun x hx hq => HK.out.nf f hf x hx hq)
                      have K6 : DrK W w6 gp gq N p' (.slice va fs.length vc) fs cs (j + 1) q' ds' := by
                        refine ⟨D6, R6, O6, fun x hx hq => ?_, fun f hf x hx hq => ?_, HT.out.2.1, by rw [HT.out.2.2, HK.out.clr], HK.out.len⟩
                        · rcases F x hq with h1 | h1
                          · exact HK.out.nv x hx h1
                          · have := (HK.out.row.lt x hx).2; omega
                        · rcases F x hq with h1 | h1
                          · exact HK.out.nf f hf x hx h1
                          · have := ((HK.out.own f hf).lt x hx).2; omega
                      obtain ⟨au, cu, hu, CU, -⟩ := O.shape
                      obtain ⟨aj, cj, hv, CJ, -⟩ := (O6 _ (List.getElem_mem hjl)).shape
                      have c9 : w6.cell? (Addr.add ((va.getD ⟨0, 0, none⟩)) j) = some fs[j].v := by
                        obtain ⟨a9, c9, h9, C9, -⟩ := CV.ofRow R6
                        simp only [Value.slice.injEq, true_and] at h9
                        obtain ⟨rfl, -⟩ := h9
                        cases va with
                        | none =>
                          have h8 := congrArg List.length (C9.1 rfl)
                          rw [List.length_map, List.length_nil] at h8
                          omega
                        | some ad =>
                          have := C9.2 ad rfl j (by rw [List.length_map]; exact hjl)
                          rw [Option.getD_some, this]
                          simp
                      have hfl2 := HL.out _ (List.getElem_mem hjl)
                      have CS := same_any au aj cu cj fs[j].b w6 CU CJ (by omega)
                      have HK6 : Hid (DrK W w6 gp gq N p' (.slice va fs.length vc) fs cs (j + 1) q' ds') := K6
                      obtain ⟨bv9, ov9, hva⟩ : ∃ b o, va = some ⟨b, o, none⟩ := by
                        rcases R6.2 with ⟨h8, h9⟩ | ⟨g9, cap9, cur9, h8, -⟩
                        · omega
                        · simp only [Value.slice.injEq, true_and] at h8
                          exact ⟨g9, 0, h8.1⟩
                      subst hva hu
                      rw [hv] at c9
                      simp only [Option.getD_some, Addr.add_lit] at c9
                      clear L hg G F O hp D6 R6 O6 K6 CU CJ hab HT HK hv hfl2
                      generalize fs[j].b = bj at *
                      go_wp2_with fail
                      refine CS.mono ?_
                      rintro e w7 ⟨rfl, n7, rfl⟩
                      have HF : Hid (DrK W (w6.drewN n7) gp gq N p' (.slice (some ⟨bv9, ov9, none⟩) fs.length vc) fs cs (j + 1) q' ds') := HK6.out.kept (grown_drewN _ _ _)
                      clear CS HK6 c9
                      go_wp2
                      go_roundw
                      case rel => exact ⟨j + 1, by omega, by go_num, q', ds', HF.out⟩
                      case measure => simp [intOf]; omega
                  · obtain rfl : j = fs.length := by omega
                    have hz : allP ds = [] := by rw [K.left, List.drop_of_length_le (by simp)]
                    have hn1 := take_empty hz
                    have hcs : ds = cs.map Qc.clear := by rw [← K.clr, (take_no ds hn1).2]
                    have D := K.duo
                    rw [hcs] at D
                    have CP := lqtake_any W.heap.size p' wr D.a
                    rw [D.ga] at CP
                    have hn2 : takeP (cs.map Qc.clear) = none := take_empty (clear_all cs)
                    have HD : Hid (Duo W wr gp gq p' q (cs.map Qc.clear) (cs.map Qc.clear) ∧ takeP (cs.map Qc.clear) = none ∧ cs.length = N) := ⟨D, hn2, K.len⟩
                    clear HK K hz hn1 hcs D hn2 HL
                    go_wp2_with fail
                    refine CT.mono ?_
                    rintro e w6 T
                    clear CT
                    rcases T with ⟨-, rfl, rfl⟩ | ⟨m, u, b, q', t0, -⟩
                    · go_wp2_with fail
                      refine CP.mono ?_
                      rintro e w7 T
                      clear CP
                      rcases T with ⟨-, rfl, rfl⟩ | ⟨m, u, b, q', t0, -⟩
                      · have CL := lqlens_any W.heap.size p' w7 HD.out.1.a
                        have hlc : lensP p'.abs = List.replicate N 0 := by rw [HD.out.1.ca, lens_clear, HD.out.2.2]
                        rw [HD.out.1.ga, hlc] at CL
                        clear hlc
                        obtain ⟨i0, hi, hz0, hz1, hz2⟩ := info_parts infoInt
                        go_upto_region 25 with fail
                        refine wp_region_held_drew (S := fun _ => True) (by kernel_rfl) (trivial) (fun hHeld => ?_)
                        refine wpAnyH_take (i := 0) (v := .bool false) rfl (by kernel_rfl) (by kernel_rfl) (by kernel_rfl) (fun _ _ _ h => h) (Or.inl ⟨by rfl, fun W hW => ?_⟩) hHeld ?_
                        · clear hW
                          go_simp
                        try simp only [Act.put, List.getElem_toArray, List.getElem_cons_zero, List.setIfInBounds_toArray, List.set_cons_zero, List.set_cons_succ]
                        refine wpAnyH_take (i := 1) (v := .bool false) rfl (by kernel_rfl) (by kernel_rfl) (by kernel_rfl) (fun _ _ _ h => h) (Or.inl ⟨by rfl, fun W hW => ?_⟩) hHeld ?_
                        · clear hW
                          go_simp
                        try simp only [Act.put, List.getElem_toArray, List.getElem_cons_zero, List.getElem_cons_succ, List.setIfInBounds_toArray, List.set_cons_zero, List.set_cons_succ]
                        refine wpAnyH_take (i := 2) (v := .bool false) rfl (by kernel_rfl) (by kernel_rfl) (by kernel_rfl) (fun _ _ _ h => h) (Or.inl ⟨by rfl, fun W hW => ?_⟩) hHeld ?_
                        · clear hW
                          go_simp
                        try simp only [Act.put, List.getElem_toArray, List.getElem_cons_zero, List.getElem_cons_succ, List.setIfInBounds_toArray, List.set_cons_zero, List.set_cons_succ]
                        refine wpAnyH_take (i := 3) (v := .bool false) rfl (by kernel_rfl) (by kernel_rfl) (by kernel_rfl) (fun _ _ _ h => h) (Or.inl ⟨by rfl, fun W hW => ?_⟩) hHeld ?_
                        · clear hW
                          go_simp
                        try simp only [Act.put, List.getElem_toArray, List.getElem_cons_zero, List.getElem_cons_succ, List.setIfInBounds_toArray, List.set_cons_zero, List.set_cons_succ]
                        refine wpAnyH_take (i := 4) (v := .bool false) rfl (by kernel_rfl) (by kernel_rfl) (by kernel_rfl) (fun _ _ _ h => h) (Or.inl ⟨by rfl, fun W hW => ?_⟩) hHeld ?_
                        · clear hW
                          go_simp
                        try simp only [Act.put, List.getElem_toArray, List.getElem_cons_zero, List.getElem_cons_succ, List.setIfInBounds_toArray, List.set_cons_zero, List.set_cons_succ]
                        refine wpAnyH_take (i := 5) (v := .pointer (some ⟨gp, 0, none⟩)) rfl (by kernel_rfl) (by kernel_rfl) (by kernel_rfl) (fun _ _ _ h => h) (Or.inl ⟨by rfl, fun W hW => ?_⟩) hHeld ?_
                        · clear hW
                          go_simp
                        try simp only [Act.put, List.getElem_toArray, List.getElem_cons_zero, List.getElem_cons_succ, List.setIfInBounds_toArray, List.set_cons_zero, List.set_cons_succ]
                        refine wpAnyH_take (i := 7) (v := .slice a0 N cap0) rfl (by kernel_rfl) (by kernel_rfl) (by kernel_rfl) (fun _ _ _ h => h) (Or.inl ⟨by rfl, fun W hW => ?_⟩) hHeld ?_
                        · clear hW
                          go_simp
                        try simp only [Act.put, List.getElem_toArray, List.getElem_cons_zero, List.getElem_cons_succ, List.setIfInBounds_toArray, List.set_cons_zero, List.set_cons_succ]
                        refine wpAnyH_take (i := 8) (v := .int .i64 (N : Int)) rfl (by kernel_rfl) (by kernel_rfl) (by kernel_rfl) (fun _ _ _ h => h) (Or.inl ⟨by rfl, fun W hW => ?_⟩) hHeld ?_
                        · clear hW
                          go_simp
                        try simp only [Act.put, List.getElem_toArray, List.getElem_cons_zero, List.getElem_cons_succ, List.setIfInBounds_toArray, List.set_cons_zero, List.set_cons_succ]
                        have G : w7.grownBy w7.drew none := ⟨rfl, rfl, rfl, Nat.le_refl _, fun _ _ _ => rfl⟩
                        have CL' : ∀ wx, w7.grownBy wx none → Calls Try.prog 21 #[.pointer (some ⟨gp, 0, none⟩)] wx fun e w' => ∃ v, e = .returned v ∧ ZOwns w' wx.heap.size v (List.replicate N 0) ∧ wx.grownBy w' none := fun wx K => by
                          have := lqlens_any W.heap.size p' wx (HD.out.1.a.keptNone K)
                          rw [HD.out.1.ga, HD.out.1.ca, lens_clear, HD.out.2.2] at this
                          exact this
                        generalize w7.drew = wc at *
                        clear CL
                        refine wpAnyH_ready (rs := [6, 9]) (by kernel_rfl) (by simp) (AllReadyH.cons rfl (fun K hK => ?_) (AllReadyH.cons rfl (fun K hK => ?_) AllReadyH.nil))
                        · go_simp
                          refine (CL' _ G).mono ?_
                          rintro e wl ⟨vn, rfl, ON, KN⟩
                          go_wp2_with fail
                          refine hK.out _ _ trivial (fun hHeld => ?_)
                          clear hK K hHeld
                          replace G := grown_trans G KN
                          try simp only [Act.put, List.getElem_toArray, List.getElem_cons_zero, List.getElem_cons_succ, List.setIfInBounds_toArray, List.set_cons_zero, List.set_cons_succ]
                          refine wpAnyH_ready (rs := [9]) (by kernel_rfl) (by simp) (AllReadyH.cons rfl (fun K hK => ?_) AllReadyH.nil)
                          refine step_makeW (by rfl) (.tmp 152) 22 (by rfl) 0 3 i0 _ 1 Try.underlying22 hi hz0 hz1 N (by rfl) (by rw [hz2]; omega) (by unfold maxLen; omega) (Nat.zero_le _) ?_
                          intro gF wn On Kn
                          rw [made1 _ rfl] at On
                          replace G := grown_trans G Kn
                          refine hK.out _ _ trivial (fun hHeld => ?_)
                          clear hK K hHeld
                          try simp only [Act.put, List.getElem_toArray, List.getElem_cons_zero, List.getElem_cons_succ, List.setIfInBounds_toArray, List.set_cons_zero, List.set_cons_succ]
                          have ON2 := owns_keptNone ON Kn
                          have On2 := On
                          obtain ⟨an, cn, hvn, CN, -⟩ := CV.ofRow ON2
                          obtain ⟨af, cf, hvf, CF, -⟩ := CV.ofRow On2
                          simp only [Value.slice.injEq, true_and] at hvf
                          obtain ⟨rfl, rfl⟩ := hvf
                          subst hvn
                          have CS := zsame_len an (some ⟨gF, 0, none⟩) cn N N (List.replicate N 0) (by simp) _ CN (by simpa [iv] using CF) (by omega)
                          rw [show (List.replicate N (0 : Int)).length = N by simp]
                          clear ON2 On2 ON On CN CF Kn KN
                          refine wpAnyH_ready (rs := [10]) (by kernel_rfl) (by simp) (AllReadyH.cons rfl (fun K hK => ?_) AllReadyH.nil)
                          go_simp
                          refine CS.mono ?_
                          rintro e wl ⟨rfl, nz, rfl⟩
                          go_wp2_with fail
                          refine hK.out _ _ trivial (fun hHeld => ?_)
                          clear hK K hHeld CS
                          try simp only [Act.put, List.getElem_toArray, List.getElem_cons_zero, List.getElem_cons_succ, List.setIfInBounds_toArray, List.set_cons_zero, List.set_cons_succ]
                          refine wpAnyH_take (i := 11) (v := .bool false) rfl (by kernel_rfl) (by kernel_rfl) (by kernel_rfl) (fun _ _ _ h => h) (Or.inl ⟨by rfl, fun W hW => ?_⟩) hHeld ?_
                          · clear hW
                            go_simp
                          try simp only [Act.put, List.getElem_toArray, List.getElem_cons_zero, List.getElem_cons_succ, List.setIfInBounds_toArray, List.set_cons_zero, List.set_cons_succ]
                          refine wpAnyH_take (i := 12) (v := .bool false) rfl (by kernel_rfl) (by kernel_rfl) (by kernel_rfl) (fun _ _ _ h => h) (Or.inl ⟨by rfl, fun W hW => ?_⟩) hHeld ?_
                          · clear hW
                            go_simp
                          try simp only [Act.put, List.getElem_toArray, List.getElem_cons_zero, List.getElem_cons_succ, List.setIfInBounds_toArray, List.set_cons_zero, List.set_cons_succ]
                          refine wpAnyH_done (by kernel_rfl) ?_ _
                          have HF : Hid (Duo W _ gp gq p' q (cs.map Qc.clear) (cs.map Qc.clear) ∧ (cs.map Qc.clear).length = N ∧ ∀ b ∈ allP (cs.map Qc.clear), b.length ≤ 65535) := ⟨HD.out.1.kept (grown_trans G (grown_drewN _ nz none)), by rw [List.length_map]; exact HD.out.2.2, by rw [clear_all]; intro b hb; cases hb⟩
                          clear HD CL' G hi hz0 hz1 hz2
                          go_wp2
                          go_roundw
                          case rel => exact ⟨rr + 1, by omega, by go_num, p', q, _, HF.out⟩
                          case measure => simp [intOf]; omega
                        · refine step_makeW (by rfl) (.tmp 152) 22 (by rfl) 0 3 i0 _ 1 Try.underlying22 hi hz0 hz1 N (by rfl) (by rw [hz2]; omega) (by unfold maxLen; omega) (Nat.zero_le _) ?_
                          intro gF wn On Kn
                          rw [made1 _ rfl] at On
                          replace G := grown_trans G Kn
                          refine hK.out _ _ trivial (fun hHeld => ?_)
                          clear hK K hHeld
                          try simp only [Act.put, List.getElem_toArray, List.getElem_cons_zero, List.getElem_cons_succ, List.setIfInBounds_toArray, List.set_cons_zero, List.set_cons_succ]
                          refine wpAnyH_ready (rs := [6]) (by kernel_rfl) (by simp) (AllReadyH.cons rfl (fun K hK => ?_) AllReadyH.nil)
                          go_simp
                          refine (CL' _ G).mono ?_
                          rintro e wl ⟨vn, rfl, ON, KN⟩
                          go_wp2_with fail
                          refine hK.out _ _ trivial (fun hHeld => ?_)
                          clear hK K hHeld
                          replace G := grown_trans G KN
                          try simp only [Act.put, List.getElem_toArray, List.getElem_cons_zero, List.getElem_cons_succ, List.setIfInBounds_toArray, List.set_cons_zero, List.set_cons_succ]
                          have ON2 := ON
                          have On2 := owns_keptNone On KN
                          obtain ⟨an, cn, hvn, CN, -⟩ := CV.ofRow ON2
                          obtain ⟨af, cf, hvf, CF, -⟩ := CV.ofRow On2
                          simp only [Value.slice.injEq, true_and] at hvf
                          obtain ⟨rfl, rfl⟩ := hvf
                          subst hvn
                          have CS := zsame_len an (some ⟨gF, 0, none⟩) cn N N (List.replicate N 0) (by simp) _ CN (by simpa [iv] using CF) (by omega)
                          rw [show (List.replicate N (0 : Int)).length = N by simp]
                          clear ON2 On2 ON On CN CF Kn KN
                          refine wpAnyH_ready (rs := [10]) (by kernel_rfl) (by simp) (AllReadyH.cons rfl (fun K hK => ?_) AllReadyH.nil)
                          go_simp
                          refine CS.mono ?_
                          rintro e wl ⟨rfl, nz, rfl⟩
                          go_wp2_with fail
                          refine hK.out _ _ trivial (fun hHeld => ?_)
                          clear hK K hHeld CS
                          try simp only [Act.put, List.getElem_toArray, List.getElem_cons_zero, List.getElem_cons_succ, List.setIfInBounds_toArray, List.set_cons_zero, List.set_cons_succ]
                          refine wpAnyH_take (i := 11) (v := .bool false) rfl (by kernel_rfl) (by kernel_rfl) (by kernel_rfl) (fun _ _ _ h => h) (Or.inl ⟨by rfl, fun W hW => ?_⟩) hHeld ?_
                          · clear hW
                            go_simp
                          try simp only [Act.put, List.getElem_toArray, List.getElem_cons_zero, List.getElem_cons_succ, List.setIfInBounds_toArray, List.set_cons_zero, List.set_cons_succ]
                          refine wpAnyH_take (i := 12) (v := .bool false) rfl (by kernel_rfl) (by kernel_rfl) (by kernel_rfl) (fun _ _ _ h => h) (Or.inl ⟨by rfl, fun W hW => ?_⟩) hHeld ?_
                          · clear hW
                            go_simp
                          try simp only [Act.put, List.getElem_toArray, List.getElem_cons_zero, List.getElem_cons_succ, List.setIfInBounds_toArray, List.set_cons_zero, List.set_cons_succ]
                          refine wpAnyH_done (by kernel_rfl) ?_ _
                          have HF : Hid (Duo W _ gp gq p' q (cs.map Qc.clear) (cs.map Qc.clear) ∧ (cs.map Qc.clear).length = N ∧ ∀ b ∈ allP (cs.map Qc.clear), b.length ≤ 65535) := ⟨HD.out.1.kept (grown_trans G (grown_drewN _ nz none)), by rw [List.length_map]; exact HD.out.2.2, by rw [clear_all]; intro b hb; cases hb⟩
                          clear HD CL' G hi hz0 hz1 hz2
                          go_wp2
                          go_roundw
                          case rel => exact ⟨rr + 1, by omega, by go_num, p', q, _, HF.out⟩
                          case measure => simp [intOf]; omega
                      · rw [HD.out.1.ca, HD.out.2.1] at t0
                        cases t0
                    · rw [HD.out.1.cb, HD.out.2.1] at t0
                      cases t0
          · obtain rfl : rr = 2 := by omega
            have HK : Hid (W.grownBy wo none) := D.gw
            clear D hcl hok
            go_wp2_with fail
            refine (awake21_any wo).mono ?_
            rintro e w5 ⟨rfl, K5⟩
            have HK5 : Hid (W.grownBy w5 none) := grown_trans HK.out K5
            clear K5 HK
            go_wp2
            go_ret
            exact ⟨rfl, HK5.out⟩

set_option maxRecDepth 100000 in
theorem lifted (os : Os) (started : os.Started) (H : Type) (enc : TypeId × Value → H) :
    ReturnsInHanded {} Try.checked os 5 .any (Rows.queueDrainsSpec.pre6 enc Try.prog Try.f5 Rows.queueDrainsRow.domain false) (Rows.queueDrainsSpec.post enc Try.prog Try.f5 false true false false) := by
  refine returnsInHanded_of_change_sized (C := Try.checked) own started (by kernel_rfl) Try.func5
    (ChangeSpec.witness6 (enc := enc) (C := Try.checked) false ⟨#[], #[.slice none 0 0, .slice none 0 0], []⟩ 8 (by kernel_rfl) (by kernel_rfl) (by kernel_rfl) (by kernel_rfl)) ?_
  intro W base args ds gs before hval0 hW hcnd hsz0 _
  have hsz : (DataW.weightsEach Try.prog (Try.f5.params.toList ++ Rows.queueDrainsSpec.plain.varTypes Try.prog) (ds ++ gs)).all (· ≤ reachBytes) = true := hsz0
  have hval : ∀ (j : Nat) t v, Try.f5.params[j]? = some t → args[j]? = some v → Value.okWide Try.prog W .any base t v := hval0
  have hW' := hW
  obtain ⟨p, q, hA0, hV, rfl, hfz, hnd⟩ := hW
  have hA : DataW.TrodAll enc Try.prog W 0 (fun _ => true) true Try.f5.params.toList args.toList ds p := hA0
  rw [Try.params5] at hA hval hsz
  obtain ⟨v0, vs0, d0, ds0, p0, q0, hargs, rfl, rfl, h0, r0⟩ := trodAll_cons hA
  obtain ⟨v1, vs1, d1, ds1, p1, q1, rfl, rfl, rfl, h1, r1⟩ := trodAll_cons r0
  obtain ⟨rfl, rfl, rfl⟩ := trodAll_nil r1
  obtain rfl : args = #[v0, v1] := by cases args; simp_all
  obtain ⟨rfl, rfl⟩ := trodVars_none hV
  obtain ⟨a0, len0, cap0, rfl⟩ := okWide_slice Try.underlying22 (hval 0 22 v0 rfl rfl)
  have k0 := h0
  have lt0 : ∀ x ∈ p0, x.block < W.heap.size := by obtain ⟨m, hm⟩ := k0; exact DataW.trod_lt m _ _ _ hm
  obtain ⟨zs0, rfl, hcv0, hnil0, hdat0⟩ := open_intl Try.underlying22 Try.underlying3 (by kernel_rfl) h0
  obtain ⟨a1, len1, cap1, rfl⟩ := okWide_slice Try.underlying22 (hval 1 22 v1 rfl rfl)
  have k1 := h1
  have lt1 : ∀ x ∈ p1, x.block < W.heap.size := by obtain ⟨m, hm⟩ := k1; exact DataW.trod_lt m _ _ _ hm
  obtain ⟨zs1, rfl, hcv1, hnil1, hdat1⟩ := open_intl Try.underlying22 Try.underlying3 (by kernel_rfl) h1
  have hlen0 : zs0.length * 8 ≤ 140737488351232 := by
    rcases hdat0 with ⟨_, rfl⟩ | ⟨elems, spare, rfl, hle⟩
    · simp
    · have := sized_slice hsz (j := 0) (t := 22) (e := 3) rfl rfl Try.underlying22
      rw [bytes3] at this
      unfold reachBytes at this
      omega
  have hlen1 : zs1.length * 8 ≤ 140737488351232 := by
    rcases hdat1 with ⟨_, rfl⟩ | ⟨elems, spare, rfl, hle⟩
    · simp
    · have := sized_slice hsz (j := 1) (t := 22) (e := 3) rfl rfl Try.underlying22
      rw [bytes3] at this
      unfold reachBytes at this
      omega
  clear hA0 hval0
  refine (walk a0 cap0 zs0 a1 cap1 zs1 W hcv0 hnil0 hlen0 hcv1 hnil1 hlen1).mono fun e W' ⟨he, hg⟩ => ?_
  subst he
  have bel : Below W.heap.size W W' := (Below.refl _ _).grown hg (Nat.le_refl _) (by simp)
  exact ⟨_, rfl, _, _, _, [], _, [], hW', trodAll_mk1 (shut_bool Try.underlying4 _), (trodAll_cons_mk (Below.trod laidOut (by kernel_rfl) (of_decide_eq_true (by kernel_rfl)) k0 bel lt0) (trodAll_cons_mk (Below.trod laidOut (by kernel_rfl) (of_decide_eq_true (by kernel_rfl)) k1 bel lt1) trodAll_mk0)), rfl, bel.frame _, fun h => by cases h⟩

theorem over : Rows.QueueDrainsSaid :=
  OpenClaim.holds_of_wide 5 Try.f5 rfl rfl rfl rfl rfl rfl rfl ⟨rfl, rfl, rfl, rfl, rfl⟩ rfl rfl rfl rfl rfl (by kernel_rfl) Try.func5 (by kernel_rfl)
    (of_decide_eq_true (by kernel_rfl)) (by unfold Func.isWrapper; first | (rw [if_pos (by decide +kernel)]; kernel_rfl) | (rw [if_neg (by decide +kernel)]; exact ⟨rfl, rfl⟩))
    (fun os started H enc _ => lifted os started H enc)

end queueDrains

theorem queueDrains_holds : Rows.QueueDrainsSaid := queueDrains.over
#print axioms queueDrains_holds

end Go.Proofs.Ytlfjpbedjmnpaaa
