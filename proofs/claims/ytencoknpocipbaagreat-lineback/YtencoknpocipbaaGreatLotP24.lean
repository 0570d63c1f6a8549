/-
  Package line as landed: Linear. The program of a graph and the graph: their runs come to the same. No Go text here.
-/
import Derived.Test.YtencoknpocipbaaGreatLnG
import Derived.Test.YtencoknpocipbaaGreatLotP23
import Derived.Test.YtencoknpocipbaaGreatLotP20
namespace Go.Proofs.YtencoknpocipbaaGreat
open Go.RowKit
open Go.Maps
set_option maxRecDepth 100000

def adrV : Value → Option Addr × Nat
  | .slice a _ c => (a, c)
  | _ => (none, 0)
theorem adr_eq {w : World} {base : Nat} {v : Value} {d : List Int} (h : ZOwns w base v d) : v = .slice (adrV v).1 d.length (adrV v).2 := by
  obtain ⟨a, c, rfl⟩ := own_slice h
  rfl
theorem mem_drop {α : Type} {l : List α} {k : Nat} (hk : k < l.length) : l.take (k + 1) = l.take k ++ [l[k]] := (List.take_append_getElem hk).symm
theorem test_code {g : List Bk} (T : TakenG g) : ∀ x ∈ zipL 0 g, x.1.en = 3 → ((x.1.last.code.toNat : Int) == 5) = false := by
  intro x hx h3
  obtain ⟨i, hi, rfl⟩ := List.getElem_of_mem hx
  rw [zipL_len] at hi
  have hz : (zipL 0 g)[i]? = some (g[i], detG g i g[i]) := by have := zipL_get (i := 0) hi; rwa [Nat.zero_add] at this
  have e : (zipL 0 g)[i]'(by rw [zipL_len]; exact hi) = (g[i], detG g i g[i]) := by
    rw [List.getElem?_eq_getElem (by rw [zipL_len]; exact hi)] at hz
    exact Option.some.inj hz
  rw [e] at h3 ⊢
  simp only at h3 ⊢
  have he := (T.ok i hi).2.1
  rw [gendsB, if_neg (by omega), if_neg (by omega), if_pos h3] at he
  simp only [Bool.and_eq_true, usesJ] at he
  have hj := he.1.2
  simp only [jumpB, Bool.or_eq_true, beq_iff_eq] at hj
  rw [beq_eq_false_iff_ne]
  omega

theorem WG.after {w wr w' : World} (G : w.grownBy wr none) (F : WG w.heap.size wr w') : w.grownBy w' none :=
  ⟨F.os.trans G.os, F.tape.trans G.tape, F.output.trans G.output, Nat.le_trans G.size F.size, fun i hi _ => (F.block i (Nat.lt_of_lt_of_le hi G.size) (fun e => by have := e.1; omega)).trans (G.block i hi (by simp))⟩
theorem jmpG_len : ∀ (z : List (Bk × List Int)) (qs : List (Option Addr × Nat)) (p : Nat), (jmpG p z qs).length ≤ sumL z
  | [], _, _ => by rw [jmpG]; exact Nat.le_refl _
  | _ :: _, [], _ => by rw [jmpG]; simp
  | x :: z, q :: qs, p => by
    have := jmpG_len z qs (p + lenB x)
    rw [jmpG, List.length_append, sumL_cons, jmpB, List.length_append, jasJ_len]
    have e : (endJ (p + x.1.code.length) x.1 x.2 q.1 q.2).length ≤ sizeE x.1 := by
      unfold endJ sizeE
      split
      · rw [if_neg (by omega)]; exact Nat.le_refl _
      · simp
    have e2 : lenB x = x.1.code.length + sizeE x.1 + x.2.length := rfl
    omega
/-- Blocks, where their lists of goals lie. -/
theorem down_qs {w : World} {base : Nat} {dvs : List Value} {z : List (Bk × List Int)} (h : DOwn w base dvs z) : ∀ (i : Nat) (x : Bk × List Int) (q : Option Addr × Nat), z[i]? = some x → (dvs.map adrV)[i]? = some q → ZOwns w base (.slice q.1 x.2.length q.2) x.2 := fun i x q h1 h2 => by
  rw [List.getElem?_map] at h2
  cases hv : dvs[i]? with
  | none => rw [hv] at h2; cases h2
  | some v =>
    rw [hv] at h2
    have e : adrV v = q := Option.some.inj h2
    have O := h.2 i v x hv h1
    rw [adr_eq O, e] at O
    exact O
theorem WG.down {w w' : World} {base : Nat} {dvs : List Value} {z : List (Bk × List Int)} (F : WG base w w') (h : DOwn w base dvs z) : DOwn w' base dvs z := ⟨h.1, fun i v x h1 h2 => WG.owns F (h.2 i v x h1 h2) (.inl rfl)⟩

set_option maxHeartbeats 8000000 in
theorem linear_any (a : Option Addr) (ca : Nat) (xs : List Bv) (w : World) (ha : GC w a xs) (hlen : ∀ x ∈ xs, x.b.code.length ≤ 4611686018427387904) :
    Calls Tryz.prog 4 #[.slice a xs.length ca] w fun e w' => ∃ v, e = .returned (.tuple #[v, .int .i64 (linE (gOf xs))]) ∧ IOwns w' w.heap.size v (linG (gOf xs)) ∧ w.grownBy w' none := by
  have CM := gmeasure_any a ca xs w ha hlen
  have HA : Hid (GC w a xs) := ha
  clear ha hlen
  cases ht : takenB (gOf xs) with
  | false =>
    have hG : ¬ (gckG (gOf xs)).2 = 0 := fun e => by rw [takenB_iff.2 e] at ht; cases ht
    have e1 : linE (gOf xs) = 180 := by rw [linE, if_neg hG]
    have e2 : linG (gOf xs) = [] := by rw [linG, if_neg (by rw [e1]; decide)]
    rw [e1, e2]
    rw [ht] at CM
    clear e1 e2 hG ht
    go_enter Tryz.func4, Tryz.ntmps4
    go_wp2_with fail
    refine CM.mono ?_
    rintro e w1 ⟨rfl, K⟩
    go_wp2
    go_ret2
    exact ⟨_, rfl, World.ownsRow_nil _ _ _ _, K⟩
  | true =>
    have hG := takenB_iff.1 ht
    rw [ht] at CM
    simp only [if_true] at CM
    by_cases hM : 4096 < countG measE (gOf xs)
    · have e1 : linE (gOf xs) = 181 := by rw [linE, if_pos hG, if_pos hM]
      have e2 : linG (gOf xs) = [] := by rw [linG, if_neg (by rw [e1]; decide)]
      rw [e1, e2]
      have hM' : (4096 : Int) < (countG measE (gOf xs) : Int) := by omega
      generalize countG measE (gOf xs) = M at *
      clear e1 e2 hG ht
      go_enter Tryz.func4, Tryz.ntmps4
      go_wp2_with fail
      refine CM.mono ?_
      rintro e w1 ⟨rfl, K⟩
      go_wp2
      go_ret2
      exact ⟨_, rfl, World.ownsRow_nil _ _ _ _, K⟩
    · have e1 : linE (gOf xs) = 0 := by rw [linE, if_pos hG, if_neg hM]
      have e2 : linG (gOf xs) = progG (gOf xs) := by rw [linG, if_pos e1]
      rw [e1, e2]
      have hM' : ¬ (4096 : Int) < (countG measE (gOf xs) : Int) := by omega
      have T := taken_g hG
      have HT : Hid (TakenG (gOf xs) ∧ countG measE (gOf xs) ≤ 4096) := ⟨T, by omega⟩
      generalize countG measE (gOf xs) = M at CM hM'
      have hmm := @run_makeMap Tryz.prog
      clear e1 e2 hG ht hM T
      go_enter Tryz.func4, Tryz.ntmps4
      go_wp2_with fail
      refine CM.mono ?_
      rintro e w1 ⟨rfl, K1⟩
      have HK1 : Hid (w.grownBy w1 none) := K1
      clear K1
      go_upto_region 7 with fail
      have GM := World.grownBy_alloc w1 (.map #[] 0) none
      have MO := World.ownsMap_made (H := Unit) w1 Tryz.prog 3 (plainElem Tryz.prog 3)
      have eW : (w1.alloc (.map #[] 0)).heap.size = w1.heap.size + 1 := by simp
      have VW := VAt.alloc (w1.alloc (.map #[] 0)) 47 #[.slice none 0 0, .map (some w1.heap.size), .slice none 0 0]
      have GW := World.grownBy_alloc (w1.alloc (.map #[] 0)) (.cells #[.slice none 0 0, .map (some w1.heap.size), .slice none 0 0] 47) none
      rw [eW] at VW
      have HWS : Hid (WS ((w1.alloc (.map #[] 0)).alloc (.cells #[.slice none 0 0, .map (some w1.heap.size), .slice none 0 0] 47)) w.heap.size (w1.heap.size + 1) w1.heap.size (.slice none 0 0) (.slice none 0 0) [] [] 0 (.map [])) :=
        ⟨VW, World.ownsRow_nil _ _ _ _, World.ownsRow_nil _ _ _ _, MO.kept GW (by simp), by have := HK1.out.size; omega, HK1.out.size, Nat.le_trans HK1.out.size (Nat.le_trans GM.size GW.size)⟩
      have HG2 : Hid (w.grownBy ((w1.alloc (.map #[] 0)).alloc (.cells #[.slice none 0 0, .map (some w1.heap.size), .slice none 0 0] 47)) none) := grown_trans HK1.out (grown_trans GM GW)
      clear GM MO eW VW GW HK1 hmm CM
      generalize (w1.alloc (.map #[] 0)).alloc (.cells #[.slice none 0 0, .map (some w1.heap.size), .slice none 0 0] 47) = w2 at *
      generalize w1.heap.size + 1 = W at *
      generalize w1.heap.size = mb at *
      go_wp2_with fail
      refine (detours_any a ca xs w2 (HA.out.keptNone HG2.out) HT.out.1).mono ?_
      rintro e w3 ⟨v, dvs, rfl, O3, D3, K3⟩
      have hn0 : 0 < xs.length := by have := HT.out.1.pos; rw [gOf_len] at this; exact this
      have hn : xs.length ≤ 4096 := by have := HT.out.1.few; rw [gOf_len] at this; exact this
      obtain ⟨vb, vc, rfl, -, -, -, -⟩ := owns_head O3 hn0
      have hb2 : w.heap.size ≤ w2.heap.size := HG2.out.size
      have HD3 : Hid (w3.ownsRow w.heap.size 50 1 (.slice (some ⟨vb, 0, none⟩) xs.length vc) xs.length dvs ∧ DOwn w3 w.heap.size dvs (zipL 0 (gOf xs)) ∧ w.grownBy w3 none) := ⟨owns_mono O3 hb2, ⟨D3.1, fun i v x h1 h2 => owns_mono (D3.2 i v x h1 h2) hb2⟩, grown_trans HG2.out K3⟩
      have HW3 : Hid (WS w3 w.heap.size W mb (.slice none 0 0) (.slice none 0 0) [] [] 0 (.map [])) := HWS.out.kept K3
      have hdl : dvs.length = xs.length := by rw [D3.1, zipL_len, gOf_len]
      clear O3 D3 K3 HWS HG2 hb2
      go_wp2
      go_loopw [23] (fun i wr => ∃ k : Nat, k ≤ xs.length ∧ i = .int .i64 k ∧ ∃ pv jv D, WS wr w.heap.size W mb pv jv (rawG ((zipL 0 (gOf xs)).take k)) (jmpG 0 ((zipL 0 (gOf xs)).take k) ((dvs.map adrV).take k)) k D ∧ MapOk (zipL 0 (gOf xs)) k D ∧ wr.ownsRow w.heap.size 50 1 (.slice (some ⟨vb, 0, none⟩) xs.length vc) xs.length dvs ∧ DOwn wr w.heap.size dvs (zipL 0 (gOf xs)) ∧ w.grownBy wr none) (fun i _ => xs.length - (intOf i).toNat)
      case atStart => exact ⟨0, Nat.zero_le _, rfl, _, _, _, by rw [List.take_zero, List.take_zero, jmpG]; exact HW3.out, ⟨⟨_, rfl⟩, fun i hi => by omega⟩, HD3.out.1, HD3.out.2.1, HD3.out.2.2⟩
      case round =>
        obtain ⟨k, hk, rfl, pv, jv, D, H1, hMO, O1, D1, G1⟩ := hrel
        have HH : Hid (WS wr w.heap.size W mb pv jv (rawG ((zipL 0 (gOf xs)).take k)) (jmpG 0 ((zipL 0 (gOf xs)).take k) ((dvs.map adrV).take k)) k D ∧ MapOk (zipL 0 (gOf xs)) k D ∧ wr.ownsRow w.heap.size 50 1 (.slice (some ⟨vb, 0, none⟩) xs.length vc) xs.length dvs ∧ DOwn wr w.heap.size dvs (zipL 0 (gOf xs)) ∧ w.grownBy wr none) := ⟨H1, hMO, O1, D1, G1⟩
        clear H1 hMO
        by_cases hlt : k < xs.length
        · have hl : (k : Int) < (xs.length : Int) := by omega
          have hkg : k < (gOf xs).length := by rw [gOf_len]; exact hlt
          have hkz : k < (zipL 0 (gOf xs)).length := by rw [zipL_len]; exact hkg
          have hkd : k < dvs.length := by omega
          have hz : (zipL 0 (gOf xs))[k]? = some ((gOf xs)[k], detG (gOf xs) k (gOf xs)[k]) := by have := zipL_get (i := 0) hkg; rwa [Nat.zero_add] at this
          have hze : (zipL 0 (gOf xs))[k] = ((gOf xs)[k], detG (gOf xs) k (gOf xs)[k]) := by
            rw [List.getElem?_eq_getElem hkz] at hz
            exact Option.some.inj hz
          have hbk : (gOf xs)[k] = xs[k].b := by simp [gOf]
          rw [hbk] at hz hze
          have hdv := D1.2 k dvs[k] _ (List.getElem?_eq_getElem hkd) hz
          have hve := adr_eq hdv
          simp only at hdv hve
          have hqe : (dvs.map adrV)[k]'(by simp; omega) = adrV dvs[k] := by simp
          have HZ : Hid (ZOwns wr w.heap.size (.slice (adrV dvs[k]).1 (detG (gOf xs) k xs[k].b).length (adrV dvs[k]).2) (detG (gOf xs) k xs[k].b)) := by
            show ZOwns _ _ _ _
            rw [← hve]
            exact hdv
          have cv : wr.cell? ⟨vb, k, none⟩ = some (.slice (adrV dvs[k]).1 (detG (gOf xs) k xs[k].b).length (adrV dvs[k]).2) := by
            have := O1.cells (g := vb) rfl k dvs[k] (List.getElem?_eq_getElem hkd)
            rw [Addr.add_lit, Nat.zero_add, hve] at this
            exact this
          have HNX : Hid (rawG ((zipL 0 (gOf xs)).take (k + 1)) = rawG ((zipL 0 (gOf xs)).take k) ++ rawB xs[k].b (detG (gOf xs) k xs[k].b) ∧ jmpG 0 ((zipL 0 (gOf xs)).take (k + 1)) ((dvs.map adrV).take (k + 1)) = jmpG 0 ((zipL 0 (gOf xs)).take k) ((dvs.map adrV).take k) ++ jmpB (rawG ((zipL 0 (gOf xs)).take k)).length xs[k].b (detG (gOf xs) k xs[k].b) (adrV dvs[k]).1 (adrV dvs[k]).2 ∧ (rawG ((zipL 0 (gOf xs)).take k)).length = plN (zipL 0 (gOf xs)) k) := by
            refine ⟨?_, ?_, rawG_len _⟩
            · rw [mem_drop hkz, rawG_snoc, hze]
            · rw [mem_drop hkz, mem_drop (l := dvs.map adrV) (by simp; omega), jmpG_snoc _ _ _ _ _ (by rw [List.length_take, List.length_take, List.length_map, zipL_len, gOf_len, hdl]), hze, hqe, Nat.zero_add, rawG_len]
          have hS := sum_meas (ens_of HT.out.1) 0
          have hp := plN_le (zipL 0 (gOf xs)) k
          have hjl := jmpG_len ((zipL 0 (gOf xs)).take k) ((dvs.map adrV).take k) 0
          have HL : Hid (((rawG ((zipL 0 (gOf xs)).take k)).length + xs[k].b.code.length ≤ 50000 ∧ (detG (gOf xs) k xs[k].b).length ≤ 10000) ∧ (jmpG 0 ((zipL 0 (gOf xs)).take k) ((dvs.map adrV).take k)).length ≤ 50000) := by
            have h4 := HT.out.2
            have hs : plN (zipL 0 (gOf xs)) (k + 1) = plN (zipL 0 (gOf xs)) k + lenB ((gOf xs)[k], detG (gOf xs) k (gOf xs)[k]) := by have := plN_succ (i := 0) hkg; rwa [Nat.zero_add] at this
            rw [hbk] at hs
            have hle := plN_le (zipL 0 (gOf xs)) (k + 1)
            have hlb : lenB (xs[k].b, detG (gOf xs) k xs[k].b) = xs[k].b.code.length + sizeE xs[k].b + (detG (gOf xs) k xs[k].b).length := rfl
            have hr := rawG_len ((zipL 0 (gOf xs)).take k)
            have hpe : plN (zipL 0 (gOf xs)) k = sumL ((zipL 0 (gOf xs)).take k) := rfl
            exact ⟨⟨by omega, by omega⟩, by omega⟩
          have HEN : Hid (xs[k].b.en = 1 ∨ xs[k].b.en = 2 ∨ xs[k].b.en = 3) := by
            have := ens_of HT.out.1 (gOf xs)[k] (List.getElem_mem hkg)
            rw [hbk] at this
            exact this
          have hGC := HA.out.keptNone G1
          obtain ⟨hx, hca, hcz⟩ := hGC.2 xs[k] (List.getElem_mem hlt)
          have HX : Hid (CV wr xs[k].a (flat xs[k].b.code) ∧ (xs[k].a = none → xs[k].b.code.length = 0 ∧ xs[k].ca = 0)) := ⟨hx, fun e => by have := hcz e; omega⟩
          obtain ⟨gb, go, hao, hcell⟩ := hGC.1.blocks hlt
          have c0 := hcell k hlt 0 _ rfl
          have c1 := hcell k hlt 1 _ rfl
          have c2 := hcell k hlt 2 _ rfl
          have c3 := hcell k hlt 3 _ rfl
          have c4 := hcell k hlt 4 _ rfl
          have c5 := hcell k hlt 5 _ rfl
          have c6 := hcell k hlt 6 _ rfl
          have c7 := hcell k hlt 7 _ rfl
          rw [Nat.add_zero] at c0
          clear hcell hGC hx hca hcz hkg hkz hz hze hbk hdv hve hqe hS hp hjl O1 D1 G1
          subst hao
          go_wp2_with fail
          refine (lblock_any wr w.heap.size W mb k k pv jv _ _ D HH.out.1 xs[k].b xs[k].a xs[k].ca HX.out.1 HX.out.2 (detG (gOf xs) k xs[k].b) (adrV dvs[k]).1 (adrV dvs[k]).2 HZ.out HEN.out HL.out.1.1 HL.out.1.2 HL.out.2 (by omega) (by omega)).mono ?_
          rintro e w4 ⟨rfl, ⟨pv4, jv4, H4⟩, F4⟩
          have HR : Hid (∃ pv jv D, WS w4 w.heap.size W mb pv jv (rawG ((zipL 0 (gOf xs)).take (k + 1))) (jmpG 0 ((zipL 0 (gOf xs)).take (k + 1)) ((dvs.map adrV).take (k + 1))) (k + 1) D ∧ MapOk (zipL 0 (gOf xs)) (k + 1) D ∧ w4.ownsRow w.heap.size 50 1 (.slice (some ⟨vb, 0, none⟩) xs.length vc) xs.length dvs ∧ DOwn w4 w.heap.size dvs (zipL 0 (gOf xs)) ∧ w.grownBy w4 none) := by
            obtain ⟨n1, n2, n3⟩ := HNX.out
            rw [n1, n2]
            refine ⟨pv4, jv4, _, H4, ?_, WG.owns F4 HH.out.2.2.1 (.inr rfl), WG.down F4 HH.out.2.2.2.1, WG.after HH.out.2.2.2.2 F4⟩
            rw [n3]
            exact HH.out.2.1.put
          clear H4 F4 HH HNX HZ HX HL HEN c0 c1 c2 c3 c4 c5 c6 c7 cv
          go_wp2
          go_roundw
          case rel => exact ⟨k + 1, by omega, by go_num, HR.out⟩
          case measure => simp [intOf]; omega
        · have hl : ¬ (k : Int) < (xs.length : Int) := by omega
          have ek : k = xs.length := by omega
          subst ek
          have hzl : (zipL 0 (gOf xs)).length = xs.length := by rw [zipL_len, gOf_len]
          obtain ⟨h1, h2, h3, h4, h5⟩ := HH.out
          rw [List.take_of_length_le (by omega), List.take_of_length_le (by simp; omega)] at h1
          rw [← gOf_len xs] at h2
          have hJ := jok_all HT.out.1 HT.out.2 h2 (down_qs h4)
          have hS := sum_meas (ens_of HT.out.1) 0
          have hrl := rawG_len (zipL 0 (gOf xs))
          have hjl := jmpG_len (zipL 0 (gOf xs)) (dvs.map adrV) 0
          have h42 := HT.out.2
          have CF := fill_any wr w.heap.size W mb xs.length pv jv _ _ D h1 (plF (zipL 0 (gOf xs))) hJ (by omega) (by omega)
          have hfa := fill_all (pl := plF (zipL 0 (gOf xs))) (zipL 0 (gOf xs)) (dvs.map adrV) [] (by rw [List.length_map]; omega) (test_code HT.out.1)
          rw [List.nil_append, List.nil_append, List.length_nil] at hfa
          rw [hfa] at CF
          have HG : Hid (w.grownBy wr none) := h5
          have CF' : Hid (Calls Tryz.prog 15 #[.pointer (some ⟨W, 0, none⟩)] wr fun e w' => e = .returned (.tuple #[]) ∧ WS w' w.heap.size W mb pv jv (progG (gOf xs)) (jmpG 0 (zipL 0 (gOf xs)) (dvs.map adrV)) xs.length D ∧ WG w.heap.size wr w') := CF
          clear CF hfa h42 hjl hrl hS hJ h1 h2 h3 h4 h5 hzl HH O1 D1 G1 hdl
          go_wp2_with fail
          refine CF'.out.mono ?_
          rintro e w4 ⟨rfl, H4, F4⟩
          have c0 : w4.cell? ⟨W, 0, none⟩ = some pv := H4.cell.cell 0
          have HE : Hid (IOwns w4 w.heap.size pv (progG (gOf xs)) ∧ w.grownBy w4 none) := ⟨H4.own, WG.after HG.out F4⟩
          obtain ⟨pa, pc, hpv⟩ := own_slice H4.own
          subst hpv
          clear H4 F4 HG CF'
          go_wp2
          go_ret2
          exact ⟨_, rfl, HE.out⟩

end Go.Proofs.YtencoknpocipbaaGreat

namespace Go.Proofs.YtencoknpocipbaaGreat
open Go.RowKit
set_option maxRecDepth 100000

/-- The same value and fault, in no fewer steps. -/
def SimR (v : Nat × Int × List Nat) (r : Nat × Int × Nat) : Prop := v.1 = r.1 ∧ v.2.1 = r.2.1 ∧ r.2.2 ≤ v.2.2.length
theorem sim_hd {v : Nat × Int × List Nat} {r : Nat × Int × Nat} (j : Nat) (h : SimR v r) : SimR (hdV j v) (addS 1 r) := by
  obtain ⟨h1, h2, h3⟩ := h
  exact ⟨h1, h2, by simp only [hdV, addS, List.length_cons]; omega⟩
theorem sim_hd0 {v : Nat × Int × List Nat} {r : Nat × Int × Nat} (j : Nat) (h : SimR v r) : SimR (hdV j v) r := by
  obtain ⟨h1, h2, h3⟩ := h
  exact ⟨h1, h2, by simp only [hdV, List.length_cons]; omega⟩
theorem addS_add2 (a b : Nat) (r : Nat × Int × Nat) : addS a (addS b r) = addS (a + b) r := by simp only [addS, Nat.add_assoc]
theorem getD_some {P : List In} {a : Nat} {x : In} (h : P[a]? = some x) : P.getD a zIn = x := by rw [List.getD_eq_getElem?_getD, h]; rfl

theorem run_plain {P : List In} {pk : List UInt8} {m a : Nat} {M : Mc} {x : In} (h : P[a]? = some x) (hp : leavesB x = false) :
    runF P pk (m + 1) a M = if (stepV x.code.toNat x.k.toNat pk M).2 = 0 then hdV a (runF P pk m (a + 1) (stepV x.code.toNat x.k.toNat pk M).1) else (0, (stepV x.code.toNat x.k.toNat pk M).2, [a]) := by
  obtain ⟨h6, h22, h5, hj⟩ := plain_codes hp
  rw [runF, getD_some h, h6, h22, h5, hj, if_neg (by simp), if_neg (by simp), if_neg (by simp), if_neg (by simp)]
theorem run_ja {P : List In} {pk : List UInt8} {m a : Nat} {M : Mc} {K : UInt32} (h : P[a]? = some ⟨5, 0, 0, K⟩) : runF P pk (m + 1) a M = hdV a (runF P pk m (a + 1 + K.toNat) M) := by
  rw [runF, getD_some h]
  rfl
theorem run_ret {P : List In} {pk : List UInt8} {m a : Nat} {M : Mc} {x : In} (h : P[a]? = some x) (h6 : (classV x.code.toNat == 6) = true) : runF P pk (m + 1) a M = (giveV x M, 0, [a]) := by
  rw [runF, getD_some h]
  rcases ret_codes h6 with q | ⟨q, r⟩
  · rw [if_pos q, giveV, beq_iff_eq.1 q, if_pos (by decide)]
  · rw [if_neg (by rw [q]; simp), if_pos r, giveV, beq_iff_eq.1 r, if_neg (by decide)]
theorem run_test {P : List In} {pk : List UInt8} {m a : Nat} {M : Mc} {x : In} (h : P[a]? = some x) (hu : usesJ x.code.toNat = true) : runF P pk (m + 1) a M = hdV a (runF P pk m (a + 1 + goalV x M) M) := by
  rw [usesJ, Bool.and_eq_true] at hu
  have hj := hu.2
  have hj' := hj
  simp only [jumpB, Bool.or_eq_true, beq_iff_eq] at hj'
  have h6 : ((x.code.toNat : Int) == 6) = false := by rw [beq_eq_false_iff_ne]; omega
  have h22 : ((x.code.toNat : Int) == 22) = false := by rw [beq_eq_false_iff_ne]; omega
  have h5 : ((x.code.toNat : Int) == 5) = false := by rw [beq_eq_false_iff_ne]; omega
  rw [runF, getD_some h, h6, h22, h5, hj, if_neg (by simp), if_neg (by simp), if_neg (by simp), if_pos rfl]

theorem code_sim {P : List In} {pk : List UInt8} : ∀ (code : List In) (s : Nat) (M : Mc), (∀ i (h : i < code.length), P[s + i]? = some code[i]) → straightB code = true → ∀ m,
    ((codeF pk code M).2.1 ≠ 0 → SimR (runF P pk (code.length + m) s M) (0, (codeF pk code M).2.1, (codeF pk code M).2.2)) ∧
    ((codeF pk code M).2.1 = 0 → ∀ r, SimR (runF P pk m (s + code.length) (codeF pk code M).1) r → SimR (runF P pk (code.length + m) s M) (addS (codeF pk code M).2.2 r))
  | [], s, M, _, _, m => by
    refine ⟨fun h => absurd rfl h, fun _ r h => ?_⟩
    simp only [codeF, List.length_nil, Nat.add_zero, Nat.zero_add, addS] at h ⊢
    exact h
  | x :: c, s, M, hx, hs, m => by
    have h0 : P[s]? = some x := hx 0 (by simp)
    simp only [straightB, List.all_cons, Bool.and_eq_true] at hs
    have hp := hs.1
    simp only [plainI, Bool.and_eq_true, Bool.not_eq_true', beq_iff_eq] at hp
    have e : runF P pk ((x :: c).length + m) s M = runF P pk (c.length + m + 1) s M := by rw [List.length_cons, show c.length + 1 + m = c.length + m + 1 by omega]
    rw [e, run_plain h0 hp.1, codeF]
    by_cases hf : (stepV x.code.toNat x.k.toNat pk M).2 = 0
    · rw [if_pos hf, if_pos hf]
      have ih := code_sim (P := P) (pk := pk) c (s + 1) (stepV x.code.toNat x.k.toNat pk M).1 (fun i h => by
        have := hx (i + 1) (by simpa using h)
        rw [show s + 1 + i = s + (i + 1) by omega]
        simpa using this) hs.2 m
      simp only
      refine ⟨fun h => ?_, fun h r hr => ?_⟩
      · have := sim_hd s (ih.1 h)
        obtain ⟨q1, q2, q3⟩ := this
        refine ⟨q1, q2, ?_⟩
        simp only [addS] at q3 ⊢
        omega
      · rw [List.length_cons, show s + (c.length + 1) = s + 1 + c.length by omega] at hr
        have := sim_hd s (ih.2 h r hr)
        rw [addS_add2, Nat.add_comm 1] at this
        exact this
    · rw [if_neg hf, if_neg hf]
      simp only
      exact ⟨fun _ => ⟨rfl, rfl, by simp⟩, fun h => absurd h hf⟩

theorem goes_sim {P : List In} {pk : List UInt8} {a b : Nat} {M : Mc} {r : Nat × Int × Nat} (h : Goes P a b) (ha : a < P.length) (hr : ∀ m, P.length ≤ m + b → SimR (runF P pk m b M) r) : ∀ m, P.length ≤ m + a → SimR (runF P pk m a M) r := by
  intro m hm
  rcases h with rfl | ⟨k, hk, hb⟩
  · exact hr m hm
  · obtain ⟨m', rfl⟩ : ∃ m', m = m' + 1 := ⟨m - 1, by omega⟩
    rw [run_ja hk, hb]
    exact sim_hd0 _ (hr m' (by omega))

theorem line_sim {g : List Bk} (T : TakenG g) (hM : countG measE g ≤ 4096) (pk : List UInt8) : ∀ d j, g.length ≤ d + j → (hj : j < g.length) → ∀ M m, (progG g).length ≤ m + plN (zipL 0 g) j → SimR (runF (progG g) pk m (plN (zipL 0 g) j) M) (goG g pk d j M) := by
  intro d
  induction d with
  | zero => intro j h1 hj; omega
  | succ d ih =>
    intro j h1 hj M m hm
    have L := lay_ok T hM hj
    obtain ⟨o1, o2, o3⟩ := T.ok j hj
    obtain ⟨ha2, ha3⟩ := goals_ahead T hj
    have hb : g.getD j bk0 = g[j] := by rw [List.getD_eq_getElem?_getD, List.getElem?_eq_getElem hj]; rfl
    have hlt := fun j hj => pl_lt T hM (j := j) hj
    have hend : plN (zipL 0 g) j + g[j].code.length < (progG g).length := by
      rcases ens_of T g[j] (List.getElem_mem hj) with q | q | q
      · exact (List.getElem?_eq_some_iff.1 (L.ret q)).1
      · exact goes_lt (L.go q) (hlt _ (ha2 q).2)
      · obtain ⟨t, f, p1, -⟩ := L.test q
        exact (List.getElem?_eq_some_iff.1 p1).1
    have C := fun m => code_sim (P := progG g) (pk := pk) g[j].code (plN (zipL 0 g) j) M L.code o1 m
    rw [goG, hb]
    obtain ⟨m', rfl⟩ : ∃ m', m = g[j].code.length + m' := ⟨m - g[j].code.length, by omega⟩
    by_cases hf : (codeF pk g[j].code M).2.1 = 0
    · rw [if_neg (by rw [hf]; simp)]
      generalize (codeF pk g[j].code M).2.2 = st at *
      have C2 := (C m').2 hf
      generalize (codeF pk g[j].code M).1 = M' at *
      rcases ens_of T g[j] (List.getElem_mem hj) with q | q | q
      · rw [if_pos q]
        rw [gendsB, if_pos q] at o2
        simp only [Bool.and_eq_true] at o2
        obtain ⟨k, rfl⟩ : ∃ k, m' = k + 1 := ⟨m' - 1, by omega⟩
        have := C2 (giveV g[j].last M', 0, 1) (by rw [run_ret (L.ret q) o2.1.1]; exact ⟨rfl, rfl, by simp⟩)
        exact this
      · rw [if_neg (by omega), if_pos q]
        refine C2 _ (goes_sim (L.go q) hend (fun m hm => ih _ ?_ (ha2 q).2 M' m hm) m' (by omega))
        have := ha2 q
        omega
      · rw [if_neg (by omega), if_neg (by omega)]
        obtain ⟨t, f, p1, p2, p3⟩ := L.test q
        rw [gendsB, if_neg (by omega), if_neg (by omega), if_pos q] at o2
        simp only [Bool.and_eq_true] at o2
        obtain ⟨k, rfl⟩ : ∃ k, m' = k + 1 := ⟨m' - 1, by omega⟩
        rw [← addS_add2]
        refine C2 _ ?_
        rw [run_test p1 o2.1]
        refine sim_hd _ ?_
        have ea : asksV ⟨g[j].last.code, t, f, g[j].last.k⟩ M' = asksV g[j].last M' := rfl
        rw [goalV, ea]
        have := ha3 q
        cases asksV g[j].last M' with
        | true =>
          simp only [if_true]
          exact goes_sim p2 (goes_lt p2 (hlt _ this.1.2)) (fun m hm => ih _ (by omega) this.1.2 M' m hm) k (by omega)
        | false =>
          simp only [Bool.false_eq_true, if_false]
          exact goes_sim p3 (goes_lt p3 (hlt _ this.2.2)) (fun m hm => ih _ (by omega) this.2.2 M' m hm) k (by omega)
    · rw [if_pos hf]
      exact (C m').1 hf

/-- P18.2, of the program that package line lays. -/
theorem line_runs {g : List Bk} (hT : (gckG g).2 = 0) (hM : countG measE g ≤ 4096) {pk : List UInt8} (hp : pk.length ≤ 65536) : runE (progG g) pk = 0 ∧ runGE g pk = 0 ∧ SimR (runV (progG g) pk) (runG g pk) := by
  have T := taken_g hT
  have hc := (prog_taken T hM).1
  have e1 : runE (progG g) pk = 0 := by rw [runE, hc, if_pos rfl, if_neg (by omega)]
  have e2 : runGE g pk = 0 := by rw [runGE, if_pos hT, if_neg (by omega)]
  refine ⟨e1, e2, ?_⟩
  rw [runV, if_pos e1, runG, if_pos e2]
  have h0 : plN (zipL 0 g) 0 = 0 := rfl
  have := line_sim T hM pk g.length 0 (by omega) T.pos mc0 (progG g).length (by omega)
  rwa [h0] at this

end Go.Proofs.YtencoknpocipbaaGreat
