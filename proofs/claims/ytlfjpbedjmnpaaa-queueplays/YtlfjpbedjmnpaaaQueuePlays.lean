/-
  Any depths, and any calls over two queues of the program, one beside the other: each answer is as the document's, frames are copies, and what is told is new memory.
-/
import Derived.Test.YtlfjpbedjmnpaaaQuY1
import Derived.Test.YtlfjpbedjmnpaaaQuY2
import Derived.Test.YtlfjpbedjmnpaaaQuY3
import Derived.Test.YtlfjpbedjmnpaaaQuZ
import Derived.Test.YtlfjpbedjmnpaaaOpenQ
import Derived.Deep.DeepCutAuto
namespace Go.Proofs.Ytlfjpbedjmnpaaa
open Go.ChangeShapes Go.WideShapes Go.ChangeAt Go.RowKit
set_option maxRecDepth 100000
namespace queuePlays

theorem told_any (base : Nat) (q : Lq) (r : Rq) (x : Av) (w : World) (h : Two w base q r) (ha : x.ok w) (hu : ∀ ad, x.a = some ad → x.b ≠ [] → ad.block < base) (hn : x.b.length ≤ 140737488351232) :
    Calls Try.prog 13 #[.pointer (some ⟨q.g, 0, none⟩), .pointer (some ⟨r.g, 0, none⟩), x.val] w (ToldP w base q r) := by
  obtain ⟨k, cl, a, ca, b⟩ := x
  show Calls Try.prog 13 #[.pointer (some ⟨q.g, 0, none⟩), .pointer (some ⟨r.g, 0, none⟩), .agg #[.int .i64 k, .int .i64 cl, .slice a b.length ca]] w (ToldP w base q r)
  by_cases h0 : k = 0
  · subst h0; exact told0_any base q r cl a b.length ca w h
  · by_cases h1 : k = 1
    · subst h1; exact told1_any base q r cl a b.length ca w h
    · by_cases h2 : k = 2
      · subst h2; exact told2_any base q r cl a b.length ca w h
      · by_cases h3 : k = 3
        · subst h3; exact told3_any base q r cl a b.length ca w h
        · exact told4_any base q r k cl a ca b w h ⟨h0, h1, h2, h3⟩ ha.1 ha.2 hu hn

/-- Two pairs of queues, side by side, made behind W. -/
structure Four (W wr : World) (gq gr gp gv : Nat) (q : Lq) (r : Rq) (p : Lq) (v : Rq) : Prop where
  a : Two wr W.heap.size q r
  b : Two wr W.heap.size p v
  ga : q.g = gq ∧ r.g = gr
  gb : p.g = gp ∧ v.g = gv
  ab : ∀ x, q.foot x ∨ r.foot x → ¬ (p.foot x ∨ v.foot x)
  gw : W.grownBy wr none

theorem Four.swap {W wr : World} {gq gr gp gv : Nat} {q p : Lq} {r v : Rq} (h : Four W wr gq gr gp gv q r p v) : Four W wr gp gv gq gr p v q r := ⟨h.b, h.a, h.gb, h.ga, fun x hx hy => h.ab x hy hx, h.gw⟩

/-- A call of the first pair. -/
theorem Four.told {W wr w2 : World} {gq gr gp gv : Nat} {q p : Lq} {r v : Rq} {e : Ending} (h : Four W wr gq gr gp gv q r p v) (t : ToldP wr W.heap.size q r e w2) : e = .returned (.bool true) ∧ ∃ q' r', Four W w2 gq gr gp gv q' r' p v := by
  obtain ⟨rfl, q', r', T, h1, h2, G, F1, F2⟩ := t
  refine ⟨rfl, q', r', T, h.b.gw G (fun x hx hs => h.ab x hs (.inl hx)) (fun x hx hs => h.ab x hs (.inr hx)), ⟨h1.trans h.ga.1, h2.trans h.ga.2⟩, h.gb, fun x hx hy => ?_, ?_⟩
  · have hlt : x < wr.heap.size := hy.elim (fun h3 => (h.b.la.lt x h3).2) (fun h3 => (h.b.ra.lt x h3).2)
    rcases hx with hx | hx
    · rcases F1 x hx with h3 | h3
      · exact h.ab x (.inl h3) hy
      · omega
    · rcases F2 x hx with h3 | h3
      · exact h.ab x (.inr h3) hy
      · omega
  · exact ((GW.non (S := fun x => q.foot x ∨ r.foot x) h.gw).trans G (fun x _ hx => hx)).grown (fun x hl hx => hx.elim (fun h3 => by have := (h.a.la.lt x h3).1; omega) (fun h3 => by have := (h.a.ra.lt x h3).1; omega))

/-- A call, as it is made. -/
theorem Four.call {W wr : World} {gq gr gp gv : Nat} {q p : Lq} {r v : Rq} (h : Four W wr gq gr gp gv q r p v) (x : Av) (ha : x.ok W) (hn : x.b.length ≤ 140737488351232) :
    Calls Try.prog 13 #[.pointer (some ⟨gq, 0, none⟩), .pointer (some ⟨gr, 0, none⟩), x.val] wr fun e w2 => e = .returned (.bool true) ∧ ∃ q' r', Four W w2 gq gr gp gv q' r' p v := by
  have hu : ∀ ad, x.a = some ad → x.b ≠ [] → ad.block < W.heap.size := fun ad had hb => ha.1.under ad had hb
  have := told_any W.heap.size q r x wr h.a ⟨ha.1.keptNone h.gw, ha.2⟩ hu hn
  rw [h.ga.1, h.ga.2] at this
  exact this.mono fun e w2 t => h.told t

theorem rangeAt_kept {w w' : World} {b o : Nat} {vs : List Value} (h : w.rangeAt b o vs) (K : w.grownBy w' none) : w'.rangeAt b o vs := fun j u hu => K.cell (h j u hu) (by simp)

theorem newP_ok (zs : List Int) : ∀ b ∈ allP (newP zs), b.length ≤ 65535 := by
  intro b hb
  obtain ⟨c, hc, hx⟩ := List.mem_flatMap.1 hb
  obtain ⟨z, _, rfl⟩ := List.mem_map.1 hc
  cases hx

theorem two_new {w1 w2 : World} {base : Nat} {q : Lq} {r : Rq} {zs : List Int} (R : RqAt w1 base r) (hr : r.abs = newP zs) (K : w1.grownBy w2 none) (L : LqAt w2 w1.heap.size q) (hq : q.abs = newP zs) : Two w2 base q r := by
  have hb := R.lo.2.2.2.2
  refine ⟨L.mono hb, R.keptNone K, by rw [hq, hr], fun x hx hy => ?_, by rw [hq]; exact newP_ok zs⟩
  have := (L.lt x hx).1
  have := (R.lt x hy).2
  omega

set_option maxHeartbeats 8000000 in
theorem walk (a0 : Option Addr) (cap0 : Nat) (zs : List Int) (a1 : Option Addr) (cap1 : Nat) (xs : List Av) (W : World) (hc0 : CV W a0 (zs.map (Value.int .i64))) (hn0 : a0 = none → cap0 = 0) (hl0 : zs.length * 8 ≤ 140737488351232) (hc1 : CV W a1 (flatA xs)) (hok : ∀ y ∈ xs, y.ok W) (_hn1 : a1 = none → cap1 = 0) (hl1 : xs.length * 40 ≤ 140737488351232) (hl2 : ∀ y ∈ xs, y.b.length ≤ 140737488351232) :
    Calls Try.prog 3 #[.slice a0 zs.length cap0, .slice a1 xs.length cap1] W fun e w' => e = .returned (.bool true) ∧ W.grownBy w' none := by
  have H0 : Hid (CV W a0 (zs.map iv) ∧ (a0 = none → cap0 = 0) ∧ zs.length * 8 ≤ 140737488351232) := ⟨hc0, hn0, hl0⟩
  have H1 : Hid (CV W a1 (flatA xs) ∧ (∀ y ∈ xs, y.ok W) ∧ xs.length * 40 ≤ 140737488351232 ∧ ∀ y ∈ xs, y.b.length ≤ 140737488351232) := ⟨hc1, hok, hl1, hl2⟩
  have CR := rqnew_any a0 cap0 zs W hc0 hn0 (by omega)
  clear hc0 hn0 hc1 hok hl2
  go_enter Try.func3, Try.ntmps3
  go_wp2_with fail
  refine CR.mono ?_
  rintro e w1 ⟨K1, hR⟩
  clear CR
  rcases hR with ⟨hbad, rfl⟩ | ⟨hgood, r, rfl, R, hra⟩
  · have CL := zlend_any a0 cap0 zs w1 (H0.out.1.keptNone K1) H0.out.2.1 H0.out.2.2
    go_wp2_with fail
    refine CL.mono ?_
    rintro e w2 ⟨vl, rfl, LE, K2⟩
    clear CL
    obtain ⟨gl, cl, hvl, hg1, hg2, CL2, -⟩ := LE.front
    subst hvl
    have CN := lnew_any (some ⟨gl, 0, none⟩) cl zs w2 CL2 (by omega)
    have HL : Hid (ZLent w2 w1.heap.size (.slice (some ⟨gl, 0, none⟩) zs.length cl) zs ∧ W.grownBy w2 none ∧ W.heap.size ≤ gl) := ⟨LE, grown_trans K1 K2, Nat.le_trans K1.size hg1⟩
    clear LE K1 K2 hg1 hg2 CL2
    go_wp2_with fail
    refine CN.mono ?_
    rintro e w3 ⟨K3, hN⟩
    clear CN
    rcases hN with ⟨-, rfl⟩ | ⟨hgd, -⟩
    · have CK := zkept_any w1.heap.size _ a0 cap0 zs w3 (HL.out.1.keptNone K3) (H0.out.1.keptNone (grown_trans HL.out.2.1 K3)) H0.out.2.2
      have HK3 : Hid (W.grownBy w3 none) := grown_trans HL.out.2.1 K3
      clear K3
      go_wp2_with fail
      refine CK.mono ?_
      rintro e w4 ⟨rfl, K4⟩
      clear CK
      have HK4 : Hid (W.grownBy w4 none) := grown_trans_new HK3.out K4 (fun x hx => by cases hx; exact HL.out.2.2)
      clear K4 HK3 HL
      go_wp2_with fail
      refine (awake21_any w4).mono ?_
      rintro e w5 ⟨rfl, K5⟩
      have HK5 : Hid (W.grownBy w5 none) := grown_trans HK4.out K5
      clear K5 HK4
      go_wp2
      go_ret
      exact ⟨rfl, HK5.out⟩
    · rw [hbad] at hgd
      cases hgd
  · have CL := zlend_any a0 cap0 zs w1 (H0.out.1.keptNone K1) H0.out.2.1 H0.out.2.2
    have HR : Hid (RqAt w1 W.heap.size r ∧ r.abs = newP zs ∧ W.grownBy w1 none) := ⟨R, hra, K1⟩
    clear R hra K1
    obtain ⟨gr, hgr⟩ : ∃ g, r.g = g := ⟨_, rfl⟩
    have HGR : Hid (r.g = gr) := hgr
    rw [hgr]
    clear hgr
    go_wp2_with fail
    refine CL.mono ?_
    rintro e w2 ⟨vl, rfl, LE, K2⟩
    clear CL
    obtain ⟨gl, cl, hvl, hg1, hg2, CL2, -⟩ := LE.front
    subst hvl
    have CN := lnew_any (some ⟨gl, 0, none⟩) cl zs w2 CL2 (by omega)
    have HL : Hid (ZLent w2 w1.heap.size (.slice (some ⟨gl, 0, none⟩) zs.length cl) zs ∧ w1.grownBy w2 none ∧ w1.heap.size ≤ gl ∧ gl < w2.heap.size) := ⟨LE, K2, hg1, hg2⟩
    clear LE K2 hg1 hg2 CL2
    go_wp2_with fail
    refine CN.mono ?_
    rintro e w3 ⟨K3, hN⟩
    clear CN
    rcases hN with ⟨hbd, -⟩ | ⟨-, q, rfl, L, hqa⟩
    · rw [hgood] at hbd
      cases hbd
    · have K13 : w1.grownBy w3 none := grown_trans HL.out.2.1 K3
      have T3 : Two w3 W.heap.size q r := two_new (HR.out.1.keptNone HL.out.2.1) HR.out.2.1 K3 L hqa
      have hqlo : ∀ x, q.foot x → w2.heap.size ≤ x := fun x hx => (L.lt x hx).1
      obtain ⟨gq, hgq⟩ : ∃ g, q.g = g := ⟨_, rfl⟩
      have HGQ : Hid (q.g = gq) := hgq
      rw [hgq]
      have CK := zkept_any w1.heap.size _ a0 cap0 zs w3 (HL.out.1.keptNone K3) (H0.out.1.keptNone (grown_trans HR.out.2.2 K13)) H0.out.2.2
      have HT : Hid (Two w3 W.heap.size q r ∧ W.grownBy w3 none ∧ gl < w2.heap.size ∧ w1.heap.size ≤ gl ∧ (∀ x, q.foot x → w2.heap.size ≤ x) ∧ (∀ x, r.foot x → x < w1.heap.size) ∧ W.heap.size ≤ w1.heap.size) := ⟨T3, grown_trans HR.out.2.2 K13, HL.out.2.2.2, HL.out.2.2.1, hqlo, fun x hx => (HR.out.1.lt x hx).2, HR.out.2.2.size⟩
      clear K3 K13 L hqa T3 hqlo hgq HL HR
      go_wp2_with fail
      refine CK.mono ?_
      rintro e w4 ⟨rfl, K4⟩
      clear CK
      obtain ⟨t1, t2, t3, t4, t5, t6, t7⟩ := HT.out
      have T4 : Two w4 W.heap.size q r := t1.gw (GW.of (S := fun x => x = gl) K4 (fun x hx => by cases hx; rfl)) (fun x hx e => by have := t5 x hx; omega) (fun x hx e => by have := t6 x hx; omega)
      have K4' : W.grownBy w4 none := grown_trans_new t2 K4 (fun x hx => by cases hx; exact Nat.le_trans t7 t4)
      have HT4 : Hid (Two w4 W.heap.size q r ∧ W.grownBy w4 none) := ⟨T4, K4'⟩
      have CC := zcopy_any a0 cap0 zs w4 (H0.out.1.keptNone K4') H0.out.2.1 (by omega)
      clear t1 t2 t3 t4 t5 t6 t7 T4 K4 K4' HT
      go_wp2_with fail
      refine CC.mono ?_
      rintro e w5 ⟨vc, rfl, OC, K5⟩
      clear CC
      obtain ⟨ac, cc, hvc, CC5, -⟩ := CV.ofRow OC
      subst hvc
      have CN := lnew_any ac cc zs w5 CC5 (by omega)
      have HK5 : Hid (w4.grownBy w5 none) := K5
      clear OC CC5 K5
      go_wp2_with fail
      refine CN.mono ?_
      rintro e w6 ⟨K6, hN⟩
      clear CN
      rcases hN with ⟨hbd, -⟩ | ⟨-, p, rfl, L, hpa⟩
      · rw [hgood] at hbd
        cases hbd
      · have K46 : w4.grownBy w6 none := grown_trans HK5.out K6
        have CR := rqnew_any a0 cap0 zs w6 (H0.out.1.keptNone (grown_trans HT4.out.2 K46)) H0.out.2.1 (by omega)
        obtain ⟨gp, hgp⟩ : ∃ g, p.g = g := ⟨_, rfl⟩
        have HGP : Hid (p.g = gp) := hgp
        rw [hgp]
        have HP : Hid (LqAt w6 w5.heap.size p ∧ p.abs = newP zs ∧ w4.grownBy w6 none ∧ w4.heap.size ≤ w5.heap.size) := ⟨L, hpa, K46, HK5.out.size⟩
        clear L hpa K46 hgp K6 HK5
        go_wp2_with fail
        refine CR.mono ?_
        rintro e w7 ⟨K7, hR⟩
        clear CR
        rcases hR with ⟨hbd, -⟩ | ⟨-, v, rfl, R, hva⟩
        · rw [hgood] at hbd
          cases hbd
        · obtain ⟨gv, hgv⟩ : ∃ g, v.g = g := ⟨_, rfl⟩
          rw [hgv]
          have F7 : Four W w7 gq gr gp gv q r p v := by
            obtain ⟨p1, p2, p3, p4⟩ := HP.out
            have hW4 : W.heap.size ≤ w4.heap.size := HT4.out.2.size
            refine ⟨HT4.out.1.keptNone (grown_trans p3 K7), ⟨(p1.keptNone K7).mono (by omega), R.mono (Nat.le_trans HT4.out.2.size (p3.size)), by rw [p2]; exact hva.symm, fun x hx hy => ?_, by rw [p2]; exact newP_ok zs⟩, ⟨HGQ.out, HGR.out⟩, ⟨HGP.out, hgv⟩, fun x hx hy => ?_, grown_trans HT4.out.2 (grown_trans p3 K7)⟩
            · have := (p1.lt x hx).2
              have := (R.lt x hy).1
              omega
            · have h1 : x < w4.heap.size := hx.elim (fun h => (HT4.out.1.la.lt x h).2) (fun h => (HT4.out.1.ra.lt x h).2)
              have h2 : w4.heap.size ≤ x := hy.elim (fun h => by have := (p1.lt x h).1; omega) (fun h => by have := (R.lt x h).1; have := p3.size; omega)
              omega
          have HF7 : Hid (Four W w7 gq gr gp gv q r p v) := F7
          clear F7 R hva K7 HP HT4 HGQ HGR HGP hgv hgood
          go_wp2
          go_loopw [14] (fun i wr => ∃ k : Nat, k ≤ xs.length ∧ i = .int .i64 k ∧ ∃ q r p v, Four W wr gq gr gp gv q r p v) (fun i _ => xs.length - (intOf i).toNat)
          case atStart => exact ⟨0, Nat.zero_le _, rfl, q, r, p, v, HF7.out⟩
          case round =>
            clear HF7 q r p v
            obtain ⟨k, hk, rfl, q, r, p, v, F⟩ := hrel
            by_cases hlt : k < xs.length
            · have hli : (k : Int) < (xs.length : Int) := by omega
              have hfl : k * 3 < (flatA xs).length := by rw [flatA_len]; omega
              obtain ⟨b, o, rfl, hc⟩ := H1.out.1.addr hfl
              have hx : ∀ j, j < 3 → W.cell? ⟨b, o + (k * 3 + j), none⟩ = xs[k].cells[j]? := fun j hj3 => by
                rw [hc (k * 3 + j) (by rw [flatA_len]; omega)]
                have := flatA_get xs k j hlt hj3
                rw [← this, List.getElem?_eq_getElem (by rw [flatA_len]; omega)]
              have RV : W.rangeAt b (o + k * 3) xs[k].cells := by
                intro j u hu
                have hj3 : j < 3 := by
                  have := (List.getElem?_eq_some_iff.1 hu).1
                  simpa [Av.cells] using this
                rw [← hu, ← hx j hj3, Nat.add_assoc]
              have HX : Hid (xs[k].ok W ∧ xs[k].b.length ≤ 140737488351232 ∧ W.rangeAt b (o + k * 3) xs[k].cells) := ⟨H1.out.2.1 _ (List.getElem_mem hlt), H1.out.2.2.2 _ (List.getElem_mem hlt), RV⟩
              clear hc hx RV hfl
              generalize xs[k] = x at *
              have HF : Hid (Four W wr gq gr gp gv q r p v) := F
              have RV := rangeAt_kept HX.out.2.2 F.gw
              have CT := F.call x HX.out.1 HX.out.2.1
              clear F
              go_upto_region 15 with fail
              go_wp2_with (refine wpList_load_mid rfl 37 (.tmp 69) rfl b (o + k * 3) rfl x.cells _ RV Try.underlying37 rfl (by kernel_rfl) ?_)
              refine CT.mono ?_
              rintro e w8 ⟨rfl, q', r', F8⟩
              have HF8 : Hid (Four W w8 gq gr gp gv q' r' p v) := F8
              clear CT F8 HF RV
              by_cases hm : k % 3 = 0
              · have hm1 : ((k : Int) % 3 == 0) = true := by rw [beq_iff_eq]; omega
                have RV := rangeAt_kept HX.out.2.2 HF8.out.gw
                have CT := HF8.out.swap.call x HX.out.1 HX.out.2.1
                have c0 : w8.cell? ⟨b, o + k * 3, none⟩ = some (.int .i64 x.kind) := RV 0 _ rfl
                have c1 : w8.cell? ⟨b, o + k * 3 + 1, none⟩ = some (.int .i64 x.cls) := RV 1 _ rfl
                have c2 : w8.cell? ⟨b, o + k * 3 + 2, none⟩ = some (.slice x.a x.b.length x.cap) := RV 2 _ rfl
                clear hm RV
                go_wp2_with fail
                refine CT.mono ?_
                rintro e w9 ⟨rfl, p', v', F9⟩
                have HF9 : Hid (Four W w9 gq gr gp gv q' r' p' v') := F9.swap
                clear CT F9 HF8 c0 c1 c2
                go_wp2
                go_roundw
                case rel => exact ⟨k + 1, by omega, by go_num, q', r', p', v', HF9.out⟩
                case measure => simp [intOf]; omega
              · have hm1 : ((k : Int) % 3 == 0) = false := by rw [beq_eq_false_iff_ne]; omega
                clear hm
                go_wp2
                go_roundw
                case rel => exact ⟨k + 1, by omega, by go_num, q', r', p, v, HF8.out⟩
                case measure => simp [intOf]; omega
            · obtain rfl : k = xs.length := by omega
              have HF : Hid (Four W wr gq gr gp gv q r p v) := F
              clear F
              have HZ : Hid ((⟨2, 0, none, 0, []⟩ : Av).ok W) := ⟨⟨fun _ => rfl, fun ad had => (by cases had)⟩, fun _ => rfl⟩
              have CT := HF.out.call ⟨2, 0, none, 0, []⟩ HZ.out (by decide)
              go_wp2_with fail
              refine CT.mono ?_
              rintro e w8 ⟨rfl, q1, r1, F8⟩
              have HF8 : Hid (Four W w8 gq gr gp gv q1 r1 p v) := F8
              clear CT F8 HF
              have CT := HF8.out.call ⟨3, 0, none, 0, []⟩ HZ.out (by decide)
              go_wp2_with fail
              refine CT.mono ?_
              rintro e w9 ⟨rfl, q2, r2, F9⟩
              have HF9 : Hid (Four W w9 gq gr gp gv q2 r2 p v) := F9
              clear CT F9 HF8
              have CT := HF9.out.call ⟨1, 0, none, 0, []⟩ HZ.out (by decide)
              go_wp2_with fail
              refine CT.mono ?_
              rintro e w10 ⟨rfl, q3, r3, F10⟩
              have HF10 : Hid (Four W w10 gq gr gp gv q3 r3 p v) := F10
              clear CT F10 HF9
              have CT := HF10.out.swap.call ⟨1, 0, none, 0, []⟩ HZ.out (by decide)
              go_wp2_with fail
              refine CT.mono ?_
              rintro e w11 ⟨rfl, p4, v4, F11⟩
              have HK : Hid (W.grownBy w11 none) := F11.gw
              clear CT F11 HF10
              go_wp2_with fail
              refine (awake21_any w11).mono ?_
              rintro e w12 ⟨rfl, K12⟩
              have HK2 : Hid (W.grownBy w12 none) := grown_trans HK.out K12
              clear K12 HK HZ
              go_wp2
              go_ret
              exact ⟨rfl, HK2.out⟩

set_option maxRecDepth 100000 in
theorem lifted (os : Os) (started : os.Started) (H : Type) (enc : TypeId × Value → H) :
    ReturnsInHanded {} Try.checked os 3 .any (Rows.queuePlaysSpec.pre6 enc Try.prog Try.f3 Rows.queuePlaysRow.domain false) (Rows.queuePlaysSpec.post enc Try.prog Try.f3 false true false false) := by
  refine returnsInHanded_of_change_sized (C := Try.checked) own started (by kernel_rfl) Try.func3
    (ChangeSpec.witness6 (enc := enc) (C := Try.checked) false ⟨#[], #[.slice none 0 0, .slice none 0 0], []⟩ 8 (by kernel_rfl) (by kernel_rfl) (by kernel_rfl) (by kernel_rfl)) ?_
  intro W base args ds gs before hval0 hW hcnd hsz0 _
  have hsz : (DataW.weightsEach Try.prog (Try.f3.params.toList ++ Rows.queuePlaysSpec.plain.varTypes Try.prog) (ds ++ gs)).all (· ≤ reachBytes) = true := hsz0
  have hval : ∀ (j : Nat) t v, Try.f3.params[j]? = some t → args[j]? = some v → Value.okWide Try.prog W .any base t v := hval0
  have hW' := hW
  obtain ⟨p, q, hA0, hV, rfl, hfz, hnd⟩ := hW
  have hA : DataW.TrodAll enc Try.prog W 0 (fun _ => true) true Try.f3.params.toList args.toList ds p := hA0
  rw [Try.params3] at hA hval hsz
  obtain ⟨v0, vs0, d0, ds0, p0, q0, hargs, rfl, rfl, h0, r0⟩ := trodAll_cons hA
  obtain ⟨v1, vs1, d1, ds1, p1, q1, rfl, rfl, rfl, h1, r1⟩ := trodAll_cons r0
  obtain ⟨rfl, rfl, rfl⟩ := trodAll_nil r1
  obtain rfl : args = #[v0, v1] := by cases args; simp_all
  obtain ⟨rfl, rfl⟩ := trodVars_none hV
  obtain ⟨a0, len0, cap0, rfl⟩ := okWide_slice Try.underlying22 (hval 0 22 v0 rfl rfl)
  have k0 := h0
  have lt0 : ∀ x ∈ p0, x.block < W.heap.size := by obtain ⟨m, hm⟩ := k0; exact DataW.trod_lt m _ _ _ hm
  obtain ⟨zs0, rfl, hcv0, hnil0, hdat0⟩ := open_intl Try.underlying22 Try.underlying3 (by kernel_rfl) h0
  obtain ⟨a1, len1, cap1, rfl⟩ := okWide_slice Try.underlying23 (hval 1 23 v1 rfl rfl)
  have k1 := h1
  have lt1 : ∀ x ∈ p1, x.block < W.heap.size := by obtain ⟨m, hm⟩ := k1; exact DataW.trod_lt m _ _ _ hm
  obtain ⟨xs1, rfl, hcv1, hok1, hnil1, hdat1⟩ := open_acts h1
  have hlen1 := sized_acts hsz (j := 1) rfl rfl hdat1
  have hlen0 : zs0.length * 8 ≤ 140737488351232 := by
    rcases hdat0 with ⟨_, rfl⟩ | ⟨elems, spare, rfl, hle⟩
    · simp
    · have := sized_slice hsz (j := 0) (t := 22) (e := 3) rfl rfl Try.underlying22
      rw [bytes3] at this
      unfold reachBytes at this
      omega
  clear hA0 hval0
  refine (walk a0 cap0 zs0 a1 cap1 xs1 W hcv0 hnil0 hlen0 hcv1 hok1 hnil1 hlen1.1 hlen1.2).mono fun e W' ⟨he, hg⟩ => ?_
  subst he
  have bel : Below W.heap.size W W' := (Below.refl _ _).grown hg (Nat.le_refl _) (by simp)
  exact ⟨_, rfl, _, _, _, [], _, [], hW', trodAll_mk1 (shut_bool Try.underlying4 _), (trodAll_cons_mk (Below.trod laidOut (by kernel_rfl) (of_decide_eq_true (by kernel_rfl)) k0 bel lt0) (trodAll_cons_mk (Below.trod laidOut (by kernel_rfl) (of_decide_eq_true (by kernel_rfl)) k1 bel lt1) trodAll_mk0)), rfl, bel.frame _, fun h => by cases h⟩

theorem over : Rows.QueuePlaysSaid :=
  OpenClaim.holds_of_wide 3 Try.f3 rfl rfl rfl rfl rfl rfl rfl ⟨rfl, rfl, rfl, rfl, rfl⟩ rfl rfl rfl rfl rfl (by kernel_rfl) Try.func3 (by kernel_rfl)
    (of_decide_eq_true (by kernel_rfl)) (by unfold Func.isWrapper; first | (rw [if_pos (by decide +kernel)]; kernel_rfl) | (rw [if_neg (by decide +kernel)]; exact ⟨rfl, rfl⟩))
    (fun os started H enc _ => lifted os started H enc)

end queuePlays

theorem queuePlays_holds : Rows.QueuePlaysSaid := queuePlays.over
#print axioms queuePlays_holds

end Go.Proofs.Ytlfjpbedjmnpaaa
