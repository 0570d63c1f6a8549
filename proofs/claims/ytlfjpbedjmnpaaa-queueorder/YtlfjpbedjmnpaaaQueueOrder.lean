/-
  What is taken is what waits longest in the least class that holds something.
-/
import Derived.Test.YtlfjpbedjmnpaaaQuP
import Derived.Test.YtlfjpbedjmnpaaaOpenQ
import Derived.Deep.DeepCutAuto
namespace Go.Proofs.Ytlfjpbedjmnpaaa
open Go.ChangeShapes Go.WideShapes Go.ChangeAt Go.RowKit
set_option maxRecDepth 100000
namespace queueOrder

theorem infoIs : (Try.prog.info? 22).map (fun i => (i.zero, i.size, i.bytes)) = some (some (.slice none 0 0), 1, 24) := by kernel_rfl

theorem new_n {zs : List Int} (h : newB zs = true) : 1 ≤ zs.length ∧ zs.length ≤ 17 := by
  unfold newB at h
  simp only [Bool.and_eq_true, decide_eq_true_eq] at h
  exact h.1
theorem new_at {zs : List Int} (h : newB zs = true) {k : Nat} (hk : k < zs.length) : 1 ≤ zs[k] ∧ zs[k] ≤ 1024 := by
  unfold newB at h
  simp only [Bool.and_eq_true, decide_eq_true_eq, List.all_eq_true] at h
  have := h.2 _ (List.getElem_mem hk)
  unfold depB at this
  simpa using this

theorem atN_lt (x : Int) {n : Nat} (h : 1 ≤ n) : atN x n < n := Nat.mod_lt _ h

/-- What holds between two puts. -/
structure At (W w : World) (g gw cap N k : Nat) (zs : List Int) (q : Lq) (cs : List Qc) (ws : List Wq) : Prop where
  ord : Ord W w g gw cap q cs ws
  len : ws.length = N
  dep : cs.map Qc.dep = zs.map Int.toNat
  few : (allP cs).length ≤ k

theorem at_zero {W w2 wr : World} {g N c : Nat} {a : Option Addr} {zs : List Int} {q : Lq} (A : AwQ W w2 g q (newP zs)) (K : w2.grownBy wr none) (O : wr.ownsRow w2.heap.size 22 1 (.slice a N c) N (List.replicate N (.slice none 0 0))) (hN : zs.length = N) (h1 : 1 ≤ N) :
    ∃ gw, a = some ⟨gw, 0, none⟩ ∧ ∃ ws, At W wr g gw c N 0 zs q (newP zs) ws := by
  have hb := A.gr.size
  have A1 := A.kept K
  rcases O.2 with ⟨hv, h0⟩ | ⟨gw, cap, cur, hv, -, -, -⟩
  · omega
  · simp only [Value.slice.injEq, true_and] at hv
    obtain ⟨rfl, rfl⟩ := hv
    refine ⟨gw, rfl, List.replicate N ⟨.slice none 0 0, []⟩, ⟨⟨A1, ⟨?_, fun c hc => ?_, fun x => ?_, A1.gr.size⟩, ?_, fun c hc z hz => ?_⟩, by simp, ?_, ?_⟩⟩
    · have := owns_mono O hb
      rw [List.length_replicate, List.map_replicate]
      exact this
    · obtain rfl := List.eq_of_mem_replicate hc
      exact ORow.nil _ _ _
    · have : wblk (List.replicate N ⟨.slice none 0 0, []⟩) = [] := by
        refine List.flatMap_eq_nil_iff.2 (fun c hc => ?_)
        obtain rfl := List.eq_of_mem_replicate hc
        rfl
      rw [this]
      simp
    · rw [List.map_replicate, ← hN]
      apply List.ext_getElem?
      intro i
      simp [newP, List.getElem?_replicate]
      by_cases hi : i < zs.length
      · rw [if_pos hi, List.getElem?_eq_getElem hi]; rfl
      · rw [if_neg hi, List.getElem?_eq_none (by omega)]; rfl
    · obtain rfl := List.eq_of_mem_replicate hc
      cases hz
    · simp [newP]
    · have : allP (newP zs) = [] := by
        refine List.flatMap_eq_nil_iff.2 (fun c hc => ?_)
        obtain ⟨z, -, rfl⟩ := List.mem_map.1 hc
        rfl
      rw [this]
      simp

theorem set_map {f : Qc → Nat} {cs : List Qc} {m : Nat} {c d : Qc} (hc : cs[m]? = some c) (h : f d = f c) : (cs.set m d).map f = cs.map f := by
  rw [List.map_set, h]
  obtain ⟨hl, rfl⟩ := List.getElem?_eq_some_iff.1 hc
  have : f cs[m] = (cs.map f)[m]'(by simpa using hl) := by simp
  rw [this, List.set_getElem_self]

theorem At.kept {W w w' : World} {g gw cap N k : Nat} {zs : List Int} {q : Lq} {cs : List Qc} {ws : List Wq} (A : At W w g gw cap N k zs q cs ws) (K : w.grownBy w' none) : At W w' g gw cap N k zs q cs ws := ⟨A.ord.kept K, A.len, A.dep, A.few⟩

/-- A class that is full. -/
theorem At.full {W w w' : World} {g gw cap N k m : Nat} {zs : List Int} {q q' : Lq} {cs : List Qc} {ws : List Wq} {c d : Qc} (A : At W w g gw cap N k zs q cs ws) (hc : cs[m]? = some c) (Q : AwQ W w' g q' (cs.set m d)) (T : WtAt w' W.heap.size gw cap ws) (hd : d.dep = c.dep) (hf : d.fr = c.fr) :
    At W w' g gw cap N (k + 1) zs q' (cs.set m d) ws := by
  refine ⟨⟨Q, T, ?_, A.ord.small⟩, A.len, (set_map hc hd).trans A.dep, ?_⟩
  · rw [← A.ord.rel, List.map_set, hf]
    obtain ⟨hl, rfl⟩ := List.getElem?_eq_some_iff.1 hc
    have : cs[m].fr = (cs.map Qc.fr)[m]'(by simpa using hl) := by simp
    rw [this, List.set_getElem_self]
  · have h1 := all_set cs m c d hc
    rw [hf] at h1
    have := A.few
    omega

/-- A class with room. -/
theorem At.pushed {W w w1 w2 : World} {g gw cap N k m : Nat} {zs : List Int} {q q' : Lq} {cs : List Qc} {ws : List Wq} {c d : Qc} {x : Wq} {v' : Value} {z : Int} (A : At W w g gw cap N k zs q cs ws) (hc : cs[m]? = some c) (hx : ws[m]? = some x) (Q : AwQ W w1 g q' (cs.set m d)) (T : WtAt w1 W.heap.size gw cap ws) (hd : d.dep = c.dep) (hf : d.fr = c.fr ++ [bq z]) (hz : 0 ≤ z ∧ z < 250)
    (K : w1.grownBy w2 x.h.ownBlock) (R : ORow w2 W.heap.size 3 v' (x.xs.map iv ++ [iv z])) (hv : v'.ownBlock = x.h.ownBlock ∨ ∀ y, v'.ownBlock = some y → w1.heap.size ≤ y) :
    At W (w2.setCell ⟨gw, m, none⟩ v') g gw cap N (k + 1) zs q' (cs.set m d) (ws.set m ⟨v', x.xs ++ [z]⟩) ∧ (∃ u, w2.cell? ⟨gw, m, none⟩ = some u) ∧ w2.frozen? ⟨gw, m, none⟩ = false := by
  have hg := A.ord.get hc hx
  obtain ⟨S1, S2, S3⟩ := Ord.push (z := z) Q T hx (by
    rw [List.map_set, List.map_set, A.ord.rel, hf, hg, List.map_append]
    rfl) A.ord.small hz K (by rw [List.map_append]; exact R) hv
  refine ⟨⟨S1, by rw [List.length_set]; exact A.len, (set_map hc hd).trans A.dep, ?_⟩, S2, S3⟩
  have h1 := all_set cs m c d hc
  rw [hf, List.length_append, List.length_singleton] at h1
  have := A.few
  omega

/-- Behind a take. -/
theorem At.first {W w w' : World} {g gw cap N k k' : Nat} {zs : List Int} {q : Lq} {cs : List Qc} {ws : List Wq} {e : Ending} (A : At W w g gw cap N k zs q cs ws) (F : FirstQ W g gw cap cs ws e w') (hk : k - 1 ≤ k') : e = .returned (.bool true) ∧ ∃ q cs ws, At W w' g gw cap N k' zs q cs ws := by
  obtain ⟨rfl, q', ds, ws', h1, h2, h3, h4⟩ := F
  have := A.few
  exact ⟨rfl, q', ds, ws', h1, h3.trans A.len, h2.trans A.dep, by omega⟩
theorem At.call {W w : World} {g gw cap N k : Nat} {zs : List Int} {q : Lq} {cs : List Qc} {ws : List Wq} (A : At W w g gw cap N k zs q cs ws) (k' : Nat) (hk : k - 1 ≤ k') :
    Calls Try.prog 16 #[.pointer (some ⟨g, 0, none⟩), .slice (some ⟨gw, 0, none⟩) N cap] w fun e w' => e = .returned (.bool true) ∧ ∃ q cs ws, At W w' g gw cap N k' zs q cs ws := by
  have := first_any W w g gw cap q cs ws A.ord
  rw [A.len] at this
  exact this.mono fun e w' F => A.first F hk

set_option maxHeartbeats 8000000 in
theorem walk (a0 : Option Addr) (cap0 : Nat) (zs : List Int) (a1 : Option Addr) (cap1 : Nat) (ps : List Int) (a2 : Option Addr) (cap2 : Nat) (bs : List Bool) (W : World) (hc0 : CV W a0 (zs.map (Value.int .i64))) (hn0 : a0 = none → cap0 = 0) (hl0 : zs.length * 8 ≤ 140737488351232) (hc1 : CV W a1 (ps.map (Value.int .i64))) (_hn1 : a1 = none → cap1 = 0) (hl1 : ps.length * 8 ≤ 140737488351232) (hc2 : CV W a2 (bs.map Value.bool)) (_hn2 : a2 = none → cap2 = 0) (_hl2 : bs.length * 1 ≤ 140737488351232) :
    Calls Try.prog 4 #[.slice a0 zs.length cap0, .slice a1 ps.length cap1, .slice a2 bs.length cap2] W fun e w' => e = .returned (.bool true) ∧ W.grownBy w' none := by
  obtain ⟨i0, hi, hz0, hz1, hz2⟩ := info_parts infoIs
  obtain ⟨i1, hi1, hz01, hz11, hz21⟩ := info_parts infoInt
  have HI : Hid (Try.prog.info? 22 = some i0 ∧ i0.zero = some (.slice none 0 0) ∧ i0.size = 1 ∧ i0.bytes = 24) := ⟨hi, hz0, hz1, hz2⟩
  have HJ : Hid (Try.prog.info? 3 = some i1 ∧ i1.zero = some (.int .i64 0) ∧ i1.size = 1 ∧ i1.bytes = 8) := ⟨hi1, hz01, hz11, hz21⟩
  clear hi hz0 hz1 hz2 hi1 hz01 hz11 hz21
  have H0 : Hid (CV W a0 (zs.map iv) ∧ (a0 = none → cap0 = 0) ∧ zs.length * 8 ≤ 140737488351232) := ⟨hc0, hn0, hl0⟩
  have H1 : Hid (CV W a1 (ps.map iv)) := hc1
  have H2 : Hid (CV W a2 (bs.map Value.bool)) := hc2
  have CC := zcopy_any a0 cap0 zs W hc0 hn0 (by omega)
  clear hc0 hn0 hc1 hc2
  go_enter Try.func4, Try.ntmps4
  go_wp2_with fail
  refine CC.mono ?_
  rintro e w1 ⟨vc, rfl, OC, K1⟩
  clear CC
  obtain ⟨ac, cc, hvc, C1, -⟩ := CV.ofRow OC
  subst hvc
  have CN := lnew_any ac cc zs w1 C1 (by omega)
  have HK1 : Hid (W.grownBy w1 none) := K1
  clear OC C1 K1
  go_wp2_with fail
  refine CN.mono ?_
  rintro e w2 ⟨K2, hN⟩
  clear CN
  have K02 := grown_trans HK1.out K2
  rcases hN with ⟨hbd, rfl⟩ | ⟨hgood, q, rfl, L, hqa⟩
  · have HK2 : Hid (W.grownBy w2 none) := K02
    clear K2 HK1 K02 hbd
    go_wp2_with fail
    refine (awake21_any w2).mono ?_
    rintro e w5 ⟨rfl, K5⟩
    have HK5 : Hid (W.grownBy w5 none) := grown_trans HK2.out K5
    clear K5 HK2
    go_wp2
    go_ret
    exact ⟨rfl, HK5.out⟩
  · obtain ⟨g, hg⟩ : ∃ g, q.g = g := ⟨_, rfl⟩
    have HA : Hid (AwQ W w2 g q (newP zs)) := ⟨L.mono HK1.out.size, hg, hqa, K02⟩
    obtain ⟨hN1, hN2⟩ := new_n hgood
    have HG : Hid (newB zs = true) := hgood
    rw [hg]
    clear L hqa K2 K02 HK1 hg hgood
    by_cases hlong : 250 < ps.length
    · have hl2 : (250 : Int) < (ps.length : Int) := by omega
      have HK : Hid (W.grownBy w2 none) := HA.out.gr
      clear HA hlong
      go_wp2_with fail
      refine (awake21_any w2).mono ?_
      rintro e w5 ⟨rfl, K5⟩
      have HK5 : Hid (W.grownBy w5 none) := grown_trans HK.out K5
      clear K5 HK
      go_wp2
      go_ret
      exact ⟨rfl, HK5.out⟩
    · have hl2 : ¬ (250 : Int) < (ps.length : Int) := by omega
      obtain ⟨N, hN⟩ : ∃ N, zs.length = N := ⟨_, rfl⟩
      have HN : Hid (zs.length = N) := hN
      rw [hN] at hN1 hN2
      rw [hN]
      clear hN
      go_wp2
      go_loopw [9, 10] (fun v i wr => ∃ k : Nat, k ≤ N ∧ i = .int .i64 k ∧ w2.grownBy wr none ∧ wr.ownsRow w2.heap.size 22 1 v k (List.replicate k (.slice none 0 0))) (fun _ i _ => N - (intOf i).toNat)
      case atStart => exact ⟨0, Nat.zero_le _, rfl, World.grownBy.refl _ _, World.ownsRow_nil _ _ _ _⟩
      case round =>
        obtain ⟨k, hk, rfl, K, O⟩ := hrel
        by_cases hlt : k < N
        · have hli : (k : Int) < (N : Int) := by omega
          obtain ⟨vl, vc, hvs⟩ : ∃ (a : Option Addr) (c : Nat), u9 = .slice a k c := by
            obtain ⟨a, c, hv, -⟩ := CV.ofRow O
            exact ⟨a, c, hv⟩
          subst hvs
          have K1 := World.grownBy_alloc wr (.cells #[.slice none 0 0] 22) none
          have HO : Hid (w2.grownBy (wr.alloc (.cells #[.slice none 0 0] 22)) none ∧ (wr.alloc (.cells #[.slice none 0 0] 22)).ownsRow w2.heap.size 22 1 (.slice vl k vc) k (List.replicate k (.slice none 0 0)) ∧ CV (wr.alloc (.cells #[.slice none 0 0] 22)) (some ⟨wr.heap.size, 0, none⟩) [.slice none 0 0]) := ⟨grown_trans K K1, owns_keptNone O K1, cv_lit wr 22 [.slice none 0 0]⟩
          clear K O K1
          go_wp2_with (at_builtin; refine wpList_append_cv rfl _ _ 40 rfl 22 i0 _ 1 24 Try.underlying40 HI.out.1 HI.out.2.1 HI.out.2.2.1 HI.out.2.2.2 rfl (by decide) w2.heap.size _ k (List.replicate k (.slice none 0 0)) rfl HO.out.2.1 _ 1 1 [.slice none 0 0] rfl rfl (fun h => by cases h) HO.out.2.2 ?q1 ?q2 ?q3 ?q4 ?q5)
          case q1 => simp [Value.oneCell']
          case q2 => unfold maxLen; omega
          case q3 => omega
          case q4 => exact HO.out.1.size
          case q5 =>
            intro v3 w3 O3 K3
            have HF : Hid (w2.grownBy w3 none ∧ w3.ownsRow w2.heap.size 22 1 v3 (k + 1) (List.replicate (k + 1) (.slice none 0 0))) := by
              refine ⟨grown_trans_new HO.out.1 K3 (fun x hx => (HO.out.2.1.lt x hx).1), ?_⟩
              rw [List.replicate_succ']
              exact O3
            clear O3 K3 HO
            go_wp2
            go_roundw
            case rel => exact ⟨k + 1, by omega, by go_num, HF.out.1, HF.out.2⟩
            case measure => simp [intOf]; omega
        · obtain rfl : k = N := by omega
          obtain ⟨va, vc, hvs⟩ : ∃ (a : Option Addr) (c : Nat), u9 = .slice a k c := by
            obtain ⟨a, c, hv, -⟩ := CV.ofRow O
            exact ⟨a, c, hv⟩
          subst hvs
          obtain ⟨gw, rfl, ws, A0⟩ := at_zero HA.out K O HN.out hN1
          obtain ⟨N, hNk⟩ : ∃ N, k = N := ⟨_, rfl⟩
          subst hNk
          have HA0 : Hid (∃ q cs ws, At W wr g gw vc k 0 zs q cs ws) := ⟨q, _, ws, A0⟩
          clear K O A0 HA hlt
          generalize vc = cap at *
          obtain ⟨N, hNk⟩ : ∃ N, N = k := ⟨_, rfl⟩
          subst hNk
          go_wp2
          go_loopw [11] (fun i wx => ∃ k : Nat, k ≤ ps.length ∧ i = .int .i64 k ∧ ∃ q cs ws, At W wx g gw cap N k zs q cs ws) (fun i _ => ps.length - (intOf i).toNat)
          case atStart => exact ⟨0, Nat.zero_le _, rfl, HA0.out⟩
          case round =>
            clear HA0 ws q
            obtain ⟨k, hk, rfl, q, cs, ws, A⟩ := hrel
            by_cases hlt : k < ps.length
            · obtain ⟨b1, o1, rfl, hc1⟩ := H1.out.ints hlt
              have c1 := A.ord.aw.gr.cell (hc1 k hlt) (by simp)
              have hli : (k : Int) < (ps.length : Int) := by omega
              have hmn : atN ps[k] N < N := atN_lt _ hN1
              have hmt : (lowV ps[k] : Int) % (N : Int) = (atN ps[k] N : Int) := by unfold atN; omega
              have HA : Hid (At W wr g gw cap N k zs q cs ws) := A
              clear hc1 A
              have CL := low_any ps[k] wr
              generalize ps[k] = p1 at *
              generalize atN p1 N = m at *
              have hk3 : k < 250 := by omega
              have hmz : m < zs.length := by rw [HN.out]; exact hmn
              obtain ⟨b0, o0, rfl, hc0⟩ := H0.out.1.ints hmz
              have hd0 := hc0 m hmz
              have hz1 := new_at HG.out hmz
              have hcs : m < cs.length := by rw [HA.out.ord.len.1, HA.out.len]; exact hmn
              have hws : m < ws.length := by rw [HA.out.len]; exact hmn
              have hcm : cs[m]? = some cs[m] := List.getElem?_eq_getElem hcs
              have hxm : ws[m]? = some ws[m] := List.getElem?_eq_getElem hws
              have hdep : cs[m].dep = zs[m].toNat := by
                have := congrArg (fun l => l[m]?) HA.out.dep
                simpa only [List.getElem?_map, hcm, List.getElem?_eq_getElem hmz, Option.map_some, Option.some.injEq] using this
              generalize cs[m] = c at *
              generalize ws[m] = x at *
              generalize zs[m] = zm at *
              obtain ⟨ok, hok⟩ : ∃ ok, decide (x.xs.length < c.dep) = ok := ⟨_, rfl⟩
              have CP := HA.out.ord.put hxm hcm (z := (k : Int)) ⟨by omega, by omega⟩ ok hok.symm
              have HX : Hid (cs[m]? = some c ∧ ws[m]? = some x ∧ W.cell? ⟨b0, o0 + m, none⟩ = some (.int .i64 zm) ∧ c.dep = zm.toNat ∧ 1 ≤ zm ∧ zm ≤ 1024) := ⟨hcm, hxm, hd0, hdep, hz1⟩
              clear hc0 hd0 hcm hxm hcs hws hmz
              go_wp2_with fail
              refine CL.mono ?_
              rintro e wl ⟨rfl, rfl⟩
              clear CL c1
              go_wp2_with fail
              refine CP.mono ?_
              rintro e w5 ⟨rfl, q', d, Q, T, hdd, hdf⟩
              clear CP
              have d0 := Q.gr.cell HX.out.2.2.1 (by simp)
              obtain ⟨c3, f3⟩ := Ord.cells T HX.out.2.1
              have R0 := T.each x (List.mem_of_getElem? HX.out.2.1)
              obtain ⟨ax, cx, hh, -, -, -, -, -, -⟩ := R0.cv
              rw [List.length_map] at hh
              rw [hh] at c3
              have hmi : (m : Int) < (N : Int) := by omega
              by_cases hroom : x.xs.length < c.dep
              · have hr : (x.xs.length : Int) < zm := by omega
                have hokt : ok = true := by rw [← hok]; exact decide_eq_true hroom
                subst hokt
                go_upto_region 14 with fail
                go_quiet (fail)
                have KQ := grown_drewN w5 nq none
                have Q := Q.kept KQ
                have T := T.keptNone KQ
                have R0 := R0.keptNone KQ
                obtain ⟨c3, f3⟩ := Ord.cells T HX.out.2.1
                rw [hh] at c3
                generalize w5.drewN nq = w8 at *
                clear KQ d0
                have K1 := World.grownBy_alloc w8 (.cells #[.int .i64 (k : Int)] 3) none
                have HP : Hid (AwQ W (w8.alloc (.cells #[.int .i64 (k : Int)] 3)) g q' (cs.set m d) ∧ WtAt (w8.alloc (.cells #[.int .i64 (k : Int)] 3)) W.heap.size gw cap ws ∧ d.dep = c.dep ∧ d.fr = c.fr ++ [bq (k : Int)]) := ⟨Q.kept K1, T.keptNone K1, hdd, by simpa using hdf⟩
                have HR : Hid (ORow (w8.alloc (.cells #[.int .i64 (k : Int)] 3)) W.heap.size 3 (.slice ax x.xs.length cx) (x.xs.map iv) ∧ CV (w8.alloc (.cells #[.int .i64 (k : Int)] 3)) (some ⟨w8.heap.size, 0, none⟩) [.int .i64 (k : Int)] ∧ x.h = .slice ax x.xs.length cx ∧ W.heap.size ≤ w8.heap.size ∧ x.xs.length ≤ 1024) := ⟨by rw [← hh]; exact R0.keptNone K1, cv_lit w8 3 [.int .i64 (k : Int)], hh, Q.gr.size, by omega⟩
                clear Q T hdd hdf R0 hh hroom hok hdep hz1 K1
                go_wp2_with (at_builtin; refine wpList_append_orow rfl _ _ 22 rfl 3 i1 _ 8 Try.underlying22 HJ.out.1 HJ.out.2.1 HJ.out.2.2.1 HJ.out.2.2.2 rfl W.heap.size (.slice ax x.xs.length cx) (x.xs.map iv) rfl HR.out.1 _ 1 (.int .i64 (k : Int)) rfl HR.out.2.1 rfl ?q1 ?q2 ?q3 ?q4)
                case q1 => have := HR.out.2.2.2.2; rw [List.length_map]; unfold maxLen; omega
                case q2 => have := HR.out.2.2.2.2; rw [List.length_map]; omega
                case q3 => exact HP.out.1.gr.size
                case q4 =>
                  intro v3 w6 R3 K3 hv3
                  obtain ⟨a3, k3, hv3s⟩ := R3.len
                  generalize (x.xs.map iv ++ [Value.int .i64 (k : Int)]).length = l3 at hv3s
                  subst hv3s
                  have e1 : (Value.slice ax x.xs.length cx).ownBlock = x.h.ownBlock := by rw [HR.out.2.2.1]
                  rw [e1] at K3 hv3
                  obtain ⟨S1, ⟨u, cu⟩, S3⟩ := HA.out.pushed (v' := .slice a3 l3 k3) (z := (k : Int)) HX.out.1 HX.out.2.1 HP.out.1 HP.out.2.1 HP.out.2.2.1 HP.out.2.2.2 ⟨by omega, by omega⟩ K3 R3 (hv3.imp_right fun h y hy => by
                    have := h y hy
                    simpa only [World.alloc, Array.size_push] using this)
                  have HT0 : Hid (At W (w6.setCell ⟨gw, m, none⟩ (.slice a3 l3 k3)) g gw cap N (k + 1) zs q' (cs.set m d) (ws.set m ⟨.slice a3 l3 k3, x.xs ++ [(k : Int)]⟩)) := S1
                  clear R3 K3 hv3 e1 HP HR c3 f3 S1
                  go_upto_region 18 with fail
                  generalize w6.setCell ⟨gw, m, none⟩ (.slice a3 l3 k3) = w7 at *
                  clear cu S3
                  have HT : Hid (∃ q cs ws, At W w7 g gw cap N (k + 1) zs q cs ws) := ⟨_, _, _, HT0.out⟩
                  clear HT0 HA HX
                  by_cases hb : k < bs.length
                  · have hbl : (k : Int) < (bs.length : Int) := by omega
                    obtain ⟨ab, ob, rfl, hcb⟩ := H2.out.addr (show k < (bs.map Value.bool).length by simpa using hb)
                    obtain ⟨q1, cs1, ws1, A1⟩ := HT.out
                    have cb := A1.ord.aw.gr.cell (hcb k (by simpa using hb)) (by simp)
                    rw [List.getElem_map] at cb
                    have CF := A1.call (k + 1) (by omega)
                    clear hcb A1
                    generalize bs[k] = bk at *
                    cases bk with
                    | false =>
                      clear CF
                      go_wp2
                      go_roundw
                      case rel => exact ⟨k + 1, by omega, by go_num, HT.out⟩
                      case measure => simp [intOf]; omega
                    | true =>
                      go_wp2_with fail
                      refine CF.mono ?_
                      rintro e w9 ⟨rfl, hA⟩
                      have HT9 : Hid (∃ q cs ws, At W w9 g gw cap N (k + 1) zs q cs ws) := hA
                      clear CF cb hA HT
                      go_wp2
                      go_roundw
                      case rel => exact ⟨k + 1, by omega, by go_num, HT9.out⟩
                      case measure => simp [intOf]; omega
                  · have hbl : ¬ (k : Int) < (bs.length : Int) := by omega
                    go_wp2
                    go_roundw
                    case rel => exact ⟨k + 1, by omega, by go_num, HT.out⟩
                    case measure => simp [intOf]; omega
              · have hr : ¬ (x.xs.length : Int) < zm := by omega
                have hokt : ok = false := by rw [← hok]; exact decide_eq_false hroom
                subst hokt
                have HT0 : Hid (At W w5 g gw cap N (k + 1) zs q' (cs.set m d) ws) := HA.out.full HX.out.1 Q T hdd hdf
                clear Q T hdd hdf R0 hh f3 hroom hok hdep hz1
                go_upto_region 14 with fail
                go_quiet (fail)
                have HT1 : Hid (At W (w5.drewN nq) g gw cap N (k + 1) zs q' (cs.set m d) ws) := HT0.out.kept (grown_drewN w5 nq none)
                clear HT0 c3 d0
                generalize w5.drewN nq = w7 at *
                have HT : Hid (∃ q cs ws, At W w7 g gw cap N (k + 1) zs q cs ws) := ⟨_, _, _, HT1.out⟩
                clear HT1 HA HX
                by_cases hb : k < bs.length
                · have hbl : (k : Int) < (bs.length : Int) := by omega
                  obtain ⟨ab, ob, rfl, hcb⟩ := H2.out.addr (show k < (bs.map Value.bool).length by simpa using hb)
                  obtain ⟨q1, cs1, ws1, A1⟩ := HT.out
                  have cb := A1.ord.aw.gr.cell (hcb k (by simpa using hb)) (by simp)
                  rw [List.getElem_map] at cb
                  have CF := A1.call (k + 1) (by omega)
                  clear hcb A1
                  generalize bs[k] = bk at *
                  cases bk with
                  | false =>
                    clear CF
                    go_wp2
                    go_roundw
                    case rel => exact ⟨k + 1, by omega, by go_num, HT.out⟩
                    case measure => simp [intOf]; omega
                  | true =>
                    go_wp2_with fail
                    refine CF.mono ?_
                    rintro e w9 ⟨rfl, hA⟩
                    have HT9 : Hid (∃ q cs ws, At W w9 g gw cap N (k + 1) zs q cs ws) := hA
                    clear CF cb hA HT
                    go_wp2
                    go_roundw
                    case rel => exact ⟨k + 1, by omega, by go_num, HT9.out⟩
                    case measure => simp [intOf]; omega
                · have hbl : ¬ (k : Int) < (bs.length : Int) := by omega
                  go_wp2
                  go_roundw
                  case rel => exact ⟨k + 1, by omega, by go_num, HT.out⟩
                  case measure => simp [intOf]; omega
            · obtain rfl : k = ps.length := by omega
              have HA : Hid (∃ q cs ws, At W wr g gw cap N (ps.length - 0) zs q cs ws) := ⟨q, cs, ws, A⟩
              clear A
              go_wp2
              go_loopw [15] (fun i wy => ∃ j : Nat, j ≤ ps.length + 1 ∧ i = .int .i64 j ∧ ∃ q cs ws, At W wy g gw cap N (ps.length - j) zs q cs ws) (fun i _ => ps.length + 1 - (intOf i).toNat)
              case atStart => exact ⟨0, Nat.zero_le _, rfl, HA.out⟩
              case round =>
                clear HA q cs ws
                obtain ⟨j, hj, rfl, q, cs, ws, A⟩ := hrel
                by_cases hjl : j ≤ ps.length
                · have hli : (j : Int) ≤ (ps.length : Int) := by omega
                  have CF := A.call (ps.length - (j + 1)) (by omega)
                  clear A
                  go_wp2_with fail
                  refine CF.mono ?_
                  rintro e w9 ⟨rfl, hA⟩
                  have HT9 : Hid (∃ q cs ws, At W w9 g gw cap N (ps.length - (j + 1)) zs q cs ws) := hA
                  clear CF hA
                  go_wp2
                  go_roundw
                  case rel => exact ⟨j + 1, by omega, by go_num, HT9.out⟩
                  case measure => simp [intOf]; omega
                · have hli : ¬ (j : Int) ≤ (ps.length : Int) := by omega
                  have hall : allP cs = [] := by
                    have := A.few
                    exact List.eq_nil_of_length_eq_zero (by omega)
                  have CX := lqdrain_any W.heap.size q wr A.ord.aw.at'
                  rw [A.ord.aw.g] at CX
                  have HD : Hid (AwQ W wr g q cs ∧ allP cs = []) := ⟨A.ord.aw, hall⟩
                  clear A hall
                  go_wp2_with fail
                  refine CX.mono ?_
                  rintro e w5 ⟨v, fs, p', rfl, hfs, hpg, hpc, L, G, F, DD⟩
                  clear CX
                  obtain ⟨R1, R2, R3, R4, R5⟩ := DD
                  rw [HD.out.1.abs, HD.out.2] at hfs
                  obtain rfl := List.map_eq_nil_iff.1 hfs
                  obtain ⟨va, vc, rfl, -⟩ := CV.ofRow R1
                  have HK : Hid (W.grownBy w5 none) := (HD.out.1.step L hpg rfl G).gr
                  clear hfs hpg hpc L G F R1 R2 R3 R4 R5 HD
                  go_wp2_with fail
                  refine (awake21_any w5).mono ?_
                  rintro e w6 ⟨rfl, K6⟩
                  have HK6 : Hid (W.grownBy w6 none) := grown_trans HK.out K6
                  clear K6 HK
                  go_wp2
                  go_ret
                  exact ⟨rfl, HK6.out⟩

set_option maxRecDepth 100000 in
theorem lifted (os : Os) (started : os.Started) (H : Type) (enc : TypeId × Value → H) :
    ReturnsInHanded {} Try.checked os 4 .any (Rows.queueOrderSpec.pre6 enc Try.prog Try.f4 Rows.queueOrderRow.domain false) (Rows.queueOrderSpec.post enc Try.prog Try.f4 false true false false) := by
  refine returnsInHanded_of_change_sized (C := Try.checked) own started (by kernel_rfl) Try.func4
    (ChangeSpec.witness6 (enc := enc) (C := Try.checked) false ⟨#[], #[.slice none 0 0, .slice none 0 0, .slice none 0 0], []⟩ 8 (by kernel_rfl) (by kernel_rfl) (by kernel_rfl) (by kernel_rfl)) ?_
  intro W base args ds gs before hval0 hW hcnd hsz0 _
  have hsz : (DataW.weightsEach Try.prog (Try.f4.params.toList ++ Rows.queueOrderSpec.plain.varTypes Try.prog) (ds ++ gs)).all (· ≤ reachBytes) = true := hsz0
  have hval : ∀ (j : Nat) t v, Try.f4.params[j]? = some t → args[j]? = some v → Value.okWide Try.prog W .any base t v := hval0
  have hW' := hW
  obtain ⟨p, q, hA0, hV, rfl, hfz, hnd⟩ := hW
  have hA : DataW.TrodAll enc Try.prog W 0 (fun _ => true) true Try.f4.params.toList args.toList ds p := hA0
  rw [Try.params4] at hA hval hsz
  obtain ⟨v0, vs0, d0, ds0, p0, q0, hargs, rfl, rfl, h0, r0⟩ := trodAll_cons hA
  obtain ⟨v1, vs1, d1, ds1, p1, q1, rfl, rfl, rfl, h1, r1⟩ := trodAll_cons r0
  obtain ⟨v2, vs2, d2, ds2, p2, q2, rfl, rfl, rfl, h2, r2⟩ := trodAll_cons r1
  obtain ⟨rfl, rfl, rfl⟩ := trodAll_nil r2
  obtain rfl : args = #[v0, v1, v2] := by cases args; simp_all
  obtain ⟨rfl, rfl⟩ := trodVars_none hV
  obtain ⟨a0, len0, cap0, rfl⟩ := okWide_slice Try.underlying22 (hval 0 22 v0 rfl rfl)
  have k0 := h0
  have lt0 : ∀ x ∈ p0, x.block < W.heap.size := by obtain ⟨m, hm⟩ := k0; exact DataW.trod_lt m _ _ _ hm
  obtain ⟨zs0, rfl, hcv0, hnil0, hdat0⟩ := open_intl Try.underlying22 Try.underlying3 (by kernel_rfl) h0
  obtain ⟨a1, len1, cap1, rfl⟩ := okWide_slice Try.underlying22 (hval 1 22 v1 rfl rfl)
  have k1 := h1
  have lt1 : ∀ x ∈ p1, x.block < W.heap.size := by obtain ⟨m, hm⟩ := k1; exact DataW.trod_lt m _ _ _ hm
  obtain ⟨zs1, rfl, hcv1, hnil1, hdat1⟩ := open_intl Try.underlying22 Try.underlying3 (by kernel_rfl) h1
  obtain ⟨a2, len2, cap2, rfl⟩ := okWide_slice Try.underlying39 (hval 2 39 v2 rfl rfl)
  have k2 := h2
  have lt2 : ∀ x ∈ p2, x.block < W.heap.size := by obtain ⟨m, hm⟩ := k2; exact DataW.trod_lt m _ _ _ hm
  obtain ⟨bs2, rfl, hcv2, hnil2, hdat2⟩ := open_bools h2
  have hlen0 : zs0.length * 8 ≤ 140737488351232 := by
    rcases hdat0 with ⟨_, rfl⟩ | ⟨elems, spare, rfl, hle⟩
    · simp
    · have := sized_slice hsz (j := 0) (t := 22) (e := 3) rfl rfl Try.underlying22
      rw [bytes3] at this
      unfold reachBytes at this
      omega
  have hlen1 : zs1.length * 8 ≤ 140737488351232 := by
    rcases hdat1 with ⟨_, rfl⟩ | ⟨elems, spare, rfl, hle⟩
    · simp
    · have := sized_slice hsz (j := 1) (t := 22) (e := 3) rfl rfl Try.underlying22
      rw [bytes3] at this
      unfold reachBytes at this
      omega
  have hlen2 : bs2.length * 1 ≤ 140737488351232 := by
    rcases hdat2 with ⟨_, rfl⟩ | ⟨elems, spare, rfl, hle⟩
    · simp
    · have := sized_slice hsz (j := 2) (t := 39) (e := 4) rfl rfl Try.underlying39
      rw [bytes4] at this
      unfold reachBytes at this
      omega
  clear hA0 hval0
  refine (walk a0 cap0 zs0 a1 cap1 zs1 a2 cap2 bs2 W hcv0 hnil0 hlen0 hcv1 hnil1 hlen1 hcv2 hnil2 (by omega)).mono fun e W' ⟨he, hg⟩ => ?_
  subst he
  have bel : Below W.heap.size W W' := (Below.refl _ _).grown hg (Nat.le_refl _) (by simp)
  exact ⟨_, rfl, _, _, _, [], _, [], hW', trodAll_mk1 (shut_bool Try.underlying4 _), (trodAll_cons_mk (Below.trod laidOut (by kernel_rfl) (of_decide_eq_true (by kernel_rfl)) k0 bel lt0) (trodAll_cons_mk (Below.trod laidOut (by kernel_rfl) (of_decide_eq_true (by kernel_rfl)) k1 bel lt1) (trodAll_cons_mk (Below.trod laidOut (by kernel_rfl) (of_decide_eq_true (by kernel_rfl)) k2 bel lt2) trodAll_mk0))), rfl, bel.frame _, fun h => by cases h⟩

theorem over : Rows.QueueOrderSaid :=
  OpenClaim.holds_of_wide 4 Try.f4 rfl rfl rfl rfl rfl rfl rfl ⟨rfl, rfl, rfl, rfl, rfl⟩ rfl rfl rfl rfl rfl (by kernel_rfl) Try.func4 (by kernel_rfl)
    (of_decide_eq_true (by kernel_rfl)) (by unfold Func.isWrapper; first | (rw [if_pos (by decide +kernel)]; kernel_rfl) | (rw [if_neg (by decide +kernel)]; exact ⟨rfl, rfl⟩))
    (fun os started H enc _ => lifted os started H enc)

end queueOrder

theorem queueOrder_holds : Rows.QueueOrderSaid := queueOrder.over
#print axioms queueOrder_holds

end Go.Proofs.Ytlfjpbedjmnpaaa
