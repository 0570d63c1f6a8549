import Derived.Test.YtklipelnjgpnjaaGreatDoorNAb
import Derived.Test.YtklipelnjgpnjaaGreatDoorLotN7
import Derived.Test.YtklipelnjgpnjaaGreatDoorLotN5
import Derived.Deep.QuietTactic
import Derived.Test.YtklipelnjgpnjaaGreatDoorLotN1
import Derived.Test.YtklipelnjgpnjaaGreatDoorLotN4
import Derived.Deep.MidRow
set_option maxHeartbeats 64000000
set_option maxRecDepth 100000
namespace Go.Proofs.YtklipelnjgpnjaaGreatDoor
open Go.RowKit
theorem a85 {c : Pt → List Value} (hc : ∀ p, (c p).length = 3) : ∀ (xs : List Pt) (n : Nat), (r9 c xs).drop (n * 3) = r9 c (xs.drop n)
 | [], n => by simp [r9]
 | x :: xs, 0 => by simp
 | x :: xs, n + 1 => by
  rw [a2Q, List.drop_succ_cons, show (n + 1) * 3 = 3 + n * 3 by omega, ← List.drop_drop, List.drop_left' (hc x), a85 hc xs n]
theorem a87 {c : Pt → List Value} (hc : ∀ p, (c p).length = 3) : ∀ (xs : List Pt) (n : Nat), (r9 c xs).take (n * 3) = r9 c (xs.take n)
 | [], n => by simp [r9]
 | x :: xs, 0 => by simp [r9]
 | x :: xs, n + 1 => by
  rw [a2Q, List.take_succ_cons, a2Q, show (n + 1) * 3 = (c x).length + n * 3 by rw [hc]; omega, List.take_append, List.take_of_length_le (by omega), Nat.add_sub_cancel_left, a87 hc xs n]
theorem an5 {c : Pt → List Value} (hc : ∀ p, (c p).length = 3) {w : World} {g : Nat} {st : List Pt} (h : CV w (some ⟨g, 0, none⟩) (r9 c st)) (f : Nat) (ao : Option Addr) (ha : ao = some ⟨g, f * 3, none⟩ ∨ (st.length ≤ f ∧ ao ≠ none)) : CV w ao (r9 c (st.drop f)) := by
 rcases ha with rfl | ⟨h1, h2⟩
 ·refine ⟨fun e => (by cases e), fun ad had i hi => ?_⟩
  cases had
  have hl := a5D hc st
  have hl2 := a5D hc (st.drop f)
  rw [List.length_drop] at hl2
  have := h.2 _ rfl (f * 3 + i) (by omega)
  rw [Addr.add_lit, Nat.zero_add] at this
  rw [Addr.add_lit, this]
  congr 1
  have e := a85 hc st f
  simp only [← e, List.getElem_drop]
 ·rw [List.drop_eq_nil_of_le h1]
  exact ⟨fun e => absurd e h2, fun ad had i hi => by simp [r9] at hi⟩
theorem aH9 {w : World} {base e size n g t : Nat} {v : Value} {vs : List Value} {cs : Array Value} (h : w.ownsRow base e size v n vs) (A : VAt w g t cs) (he : t ≠ e) : ¬ v.ownBlock = some g := fun hx => by
 rcases h.2 with ⟨rfl, -⟩ | ⟨g', cap, cur, rfl, -, hg, -⟩
 ·cases hx
 ·cases hx
  unfold VAt at A
  rw [hg] at A
  injection A with A
  injection A with _ A
  exact he A.symm
def a6N (x : Except (Nat × Int) (List Pt)) (v : Value) (e : Ending) : Prop := match x with
 | .error (k, er) => e = .returned (.tuple #[.slice none 0 0, .int .i64 (k : Int), .int .i64 er])
 | .ok _ => e = .returned (.tuple #[v, .int .i64 0, .int .i64 0])
def ad4 (x : Except (Nat × Int) (List Pt)) : List Pt := match x with
 | .error _ => []
 | .ok st => st
abbrev T6 (w : World) (base : Nat) (v : Value) (st : List Pt) : Prop := w.ownsRow base 58 3 v st.length (r9 ptC st)
theorem av2 : (Tryz.prog.info? 58).map (fun i => (i.zero, i.size, i.bytes)) = some (some (.agg a1A.toArray), 3, 16) := by kernel_rfl
theorem a8R (p : Pt) (W : World) : (Instr.buildSlice 54 1 #[(0, .agg (ptC p).toArray)]).run Tryz.prog W = .ok (.slice (some ⟨W.heap.size, 0, none⟩) 1 1) (W.alloc (.cells (ptC p).toArray 58)) := by kernel_rfl
theorem aW2 {x : Ng} {st : List Pt} (h : arG x.kind = none) : z6 x st = .error 120 := by rw [z6, h]
theorem aV9 {x : Ng} {st : List Pt} {a : Nat} (h : arG x.kind = some a) (hl : st.length < a) : z6 x st = .error 120 := by
 rw [z6, h]
 simp only
 rw [if_pos hl]
theorem aV7 {x : Ng} {st : List Pt} {a : Nat} (h : arG x.kind = some a) (hl : ¬ st.length < a) (hf : A9 x (st.drop (st.length - a)) ≠ 0) : z6 x st = .error (A9 x (st.drop (st.length - a))) := by
 rw [z6, h]
 simp only
 rw [if_neg hl, if_pos hf]
theorem ab0 {x : Ng} {st : List Pt} {a : Nat} (h : arG x.kind = some a) (hl : ¬ st.length < a) (hf : A9 x (st.drop (st.length - a)) = 0) : z6 x st = .ok (st.take (st.length - a) ++ [I6 x (st.drop (st.length - a))]) := by
 rw [z6, h]
 simp only
 rw [if_neg hl, if_neg (fun e => e hf)]
theorem b07 {t : List Ng} {st st' : List Pt} {k : Nat} (hk : k < t.length) (h : z6 t[k] st = .ok st') : j8 st k (t.drop k) = j8 st' (k + 1) (t.drop (k + 1)) := by
 rw [List.drop_eq_getElem_cons hk, j8, h]
theorem b09 {t : List Ng} {st : List Pt} {k : Nat} {e : Int} (hk : k < t.length) (h : z6 t[k] st = .error e) : j8 st k (t.drop k) = .error (k, e) := by
 rw [List.drop_eq_getElem_cons hk, j8, h]
theorem b0a (ao : Option Addr) (cap : Nat) (t : List Ng) (R : RT) (w : World) (T : M8 R w) (C : CV w ao (p9 t)) (hm : t.length * 72 ≤ 140737488355328) (hn : ∀ x ∈ t, x.n ≤ 4294967295) :
  Calls Tryz.prog 29 #[.slice (some ⟨R.g, 0, none⟩) 17 17, .slice ao t.length cap] w fun e w' => ∃ v, a6N (j8 [] 0 t) v e ∧ T6 w' w.heap.size v (ad4 (j8 [] 0 t)) ∧ w.grownBy w' none := by
 have HC : Hid (CV w ao (p9 t)) := C
 have HT : Hid (M8 R w) := T
 have HN : Hid (∀ x ∈ t, x.n ≤ 4294967295) := hn
 obtain ⟨i0, hi0, hz0, hz1, hz2⟩ := info_parts av2
 have HI : Hid _ := hi0
 have HI1 : Hid _ := hz0
 have HI2 : Hid _ := hz1
 have HI3 : Hid _ := hz2
 clear C T hn hi0 hz0 hz1 hz2
 go_enter Tryz.func29, Tryz.ntmps29
 go_wp2
 go_loopw [7, 17] (fun v i wr => ∃ (k : Nat) (st : List Pt), k ≤ t.length ∧ st.length ≤ k ∧ i = .int .i64 k ∧ Hid (T6 wr w.heap.size v st ∧ (∀ p ∈ st, p.val ≤ 4294967295) ∧ j8 [] 0 t = j8 st k (t.drop k) ∧ w.grownBy wr none)) (fun _ i _ => t.length - (intOf i).toNat)
 case atStart => exact ⟨0, [], Nat.zero_le _, Nat.le_refl _, rfl, World.ownsRow_nil _ _ _ _, (fun p hp => by cases hp), rfl, World.grownBy.refl _ _⟩
 case round =>
  obtain ⟨k, st, hk, hst, rfl, HI4⟩ := hrel
  by_cases hlt : k < t.length
  ·obtain ⟨O, hv, hw, G⟩ := HI4.out
   obtain ⟨b, o, rfl, hc⟩ := (HC.out.keptNone G).ngs hlt
   have HR : Hid (wr.rangeAt b (o + k * 24) t[k].cells) := hc k hlt
   have hxn := HN.out t[k] (List.getElem_mem hlt)
   have HZ : Hid ((Tryz.prog.info? 43).map (·.size) = some t[k].cells.length ∧ (Tryz.prog.info? 43).map (·.size) = some t[k].cells.toArray.size ∧ 24 = t[k].cells.toArray.size ∧ t[k].cells.toArray.all (·.oneCell') = true) := ⟨a1M _, E8 _, rfl, V6 _⟩
   have HNX : Hid (∀ st', z6 t[k] st = .ok st' → j8 [] 0 t = j8 st' (k + 1) (t.drop (k + 1))) := fun st' h => by rw [hw]; exact b07 hlt h
   have HST : Hid (∀ e, z6 t[k] st = .error e → j8 [] 0 t = .error (k, e)) := fun e h => by rw [hw]; exact b09 hlt h
   have K2 := World.grownBy_alloc wr (.cells t[k].cells.toArray 43) none
   have V2 := VAt.alloc wr 43 t[k].cells.toArray
   have c0 : (wr.alloc (.cells t[k].cells.toArray 43)).cell? ⟨wr.heap.size, 0, none⟩ = some (.int .i64 t[k].kind) := (NB.alloc wr t[k]).kind
   have HO2 : Hid (T6 (wr.alloc (.cells t[k].cells.toArray 43)) w.heap.size u7 st) := x9 O K2
   have G2 := d3 G K2
   have HV : Hid (∀ p ∈ st, p.val ≤ 4294967295) := hv
   obtain ⟨aL, cL, rfl, -, hb1, hb2, -, -, -⟩ := S5 O
   have hl : (k : Int) < (t.length : Int) := by omega
   have z0 : (0 : Int) ≤ (k : Int) := by omega
   have w3 : IntKind.i64.wrap ((k : Int) + 1) = (k : Int) + 1 := by rw [IntKind.wrap_i64]; omega
   have hcL : cL ≤ 9223372036854775807 := by unfold maxLen at hb2; omega
   clear hc hv hw G O HI4 hb2
   obtain ⟨x, hx⟩ : ∃ x, t[k] = x := ⟨_, rfl⟩
   rw [hx] at HR hxn HZ HNX HST K2 V2 c0 HO2 G2
   obtain ⟨cs, hcs⟩ : ∃ cs, x.cells = cs := ⟨_, rfl⟩
   have HCS : Hid (x.cells = cs) := hcs
   rw [hcs] at HR HZ K2 V2 c0 HO2 G2
   clear hx hcs
   go_upto_region 5 with (first | refine wpList_load_mid rfl 43 (.tmp 20) rfl b (o + k * 24) (by simp [Act.eval]) cs _ HR.out Tryz.underlying43 rfl HZ.out.1 ?_ | refine wpList_store_row rfl 43 (.tmp 9) (.tmp 21) rfl wr.heap.size cs.toArray rfl rfl 43 _ (heap_alloc_new wr _) HZ.out.2.1 HZ.out.2.2.1 HZ.out.2.2.2 ?_)
   rw [World.setRow_alloc_new]
   generalize wr.alloc (.cells cs.toArray 43) = w2 at *
   generalize wr.heap.size = N at *
   clear HR K2
   cases ha : arG x.kind with
   | none =>
    have CR := a9H R x.kind ha
    have HF : Hid (j8 [] 0 t = .error (k, 120)) := HST.out _ (aW2 ha)
    generalize x.kind = xk at *
    clear ha HNX HST HV
    go_wp2_with fail
    refine (CR _).mono ?_
    rintro e w4 ⟨rfl, K4⟩
    have K5 := World.grownBy_alloc w4 (.cells I8.toArray 77) none
    have V5 := VAt.alloc w4 77 I8.toArray
    clear CR
    go_upto_region 6 with (refine wpList_store_row rfl 77 (.tmp 10) (.tmp 27) rfl w4.heap.size I8.toArray rfl rfl 77 _ (heap_alloc_new w4 _) a1k rfl a4I ?_)
    rw [World.setRow_alloc_new]
    have G5 := d3 (d3 G2 K4) K5
    generalize w4.alloc (.cells I8.toArray 77) = w5 at *
    generalize w4.heap.size = P at *
    have d0 : w5.cell? ⟨P, 0, none⟩ = some (.slice none 0 0) := V5.cell 0
    clear K4 K5 V5 G2 c0 V2 HO2
    have q1 : IntKind.i64.wrap (st.length : Int) = (st.length : Int) := by rw [IntKind.wrap_i64]; omega
    go_wp2
    go_ret3
    refine ⟨.slice none 0 0, ?_, ?_, G5⟩
    ·rw [HF.out]; rfl
    ·rw [HF.out]; exact World.ownsRow_nil _ _ _ _
   | some a =>
    have hin := a3q ha
    obtain ⟨kn, hkn⟩ : ∃ kn : Nat, x.kind = kn := Int.eq_ofNat_of_zero_le (by omega)
    have h1 : 1 ≤ kn := by omega
    have h2 : kn ≤ 16 := by omega
    have CR := a9I R kn h1 h2 w2 (HT.out.kept G2)
    obtain ⟨tao, tcap, htk, -⟩ := ab8 HT.out (hkn ▸ ha)
    have HRL : Hid ((Tryz.prog.info? 77).map (·.size) = some (x0 R kn).toArray.size ∧ 7 = (x0 R kn).toArray.size ∧ (x0 R kn).toArray.all (·.oneCell') = true ∧ (x0 R kn).toArray[0]? = some (.slice tao a tcap)) := ⟨a1k, rfl, a6w HT.out h1 h2, by rw [← htk]; rfl⟩
    have HFA : Hid (∀ (ps : List Pt), ps.length = a → ∀ (ao : Option Addr) (cap : Nat) (W : World), M8 R W → CV W ao (r9 ptC ps) → Calls Tryz.prog 78 #[.agg (x0 R kn).toArray, .agg cs.toArray, .slice ao a cap] W fun e w' => e = .returned (.int .i64 (A9 x ps)) ∧ W.grownBy w' none) := fun ps hps ao cap W TW CW => by subst hps; rw [← HCS.out]; exact aX3 x ps kn hkn ha R ao cap W TW CW
    have HJA : Hid (∀ (ps : List Pt), ps.length = a → A9 x ps = 0 → (∀ p ∈ ps, p.val ≤ 4294967295) → ∀ (ao : Option Addr) (cap : Nat) (W : World), CV W ao (r9 ptC ps) → Calls Tryz.prog 79 #[.agg (x0 R kn).toArray, .agg cs.toArray, .slice ao a cap] W fun e w' => e = .returned (.agg (ptC (I6 x ps)).toArray) ∧ W.grownBy w' none) := fun ps hps hf hv ao cap W CW => by subst hps; rw [← HCS.out]; exact ax3 x ps kn hkn ha hf hv R ao cap W CW
    have HHA : Hid (arG x.kind = some a) := ha
    have hale := a1G ha
    rw [hkn] at c0
    obtain ⟨rs, hrs⟩ : ∃ rs, (x0 R kn).toArray = rs := ⟨_, rfl⟩
    rw [hrs] at CR HRL HFA HJA
    clear hrs hkn hin h1 h2 ha htk
    go_wp2_with fail
    refine CR.mono ?_
    rintro e w4 ⟨rfl, K4⟩
    have K5 := World.grownBy_alloc w4 (.cells rs 77) none
    have V5 := VAt.alloc w4 77 rs
    have HN5 : Hid (VAt (w4.alloc (.cells rs 77)) N 43 cs.toArray) := (V2.kept K4).kept K5
    have HO5 : Hid (T6 (w4.alloc (.cells rs 77)) w.heap.size (.slice aL st.length cL) st) := x9 (x9 HO2.out K4) K5
    have G5 := d3 (d3 G2 K4) K5
    clear CR V2 HO2 c0 K4 G2
    go_upto_region 6 with (refine wpList_store_row rfl 77 (.tmp 10) (.tmp 27) rfl w4.heap.size rs rfl rfl 77 _ (heap_alloc_new w4 _) HRL.out.1 HRL.out.2.1 HRL.out.2.2.1 ?_)
    rw [World.setRow_alloc_new]
    clear K5
    generalize w4.alloc (.cells rs 77) = w5 at *
    generalize w4.heap.size = P at *
    have d0 : w5.cell? ⟨P, 0, none⟩ = some (.slice tao a tcap) := by rw [V5.cell 0]; exact HRL.out.2.2.2
    have HP5 : Hid (VAt w5 P 77 rs) := V5
    clear V5
    by_cases hfew : st.length < a
    ·have HF : Hid (j8 [] 0 t = .error (k, 120)) := HST.out _ (aV9 HHA.out hfew)
     have q1 : IntKind.i64.wrap ((st.length : Int) - (a : Int)) = (st.length : Int) - (a : Int) := by rw [IntKind.wrap_i64]; omega
     have q2 : (st.length : Int) - (a : Int) < 0 := by omega
     clear HNX HST HV HFA HJA hfew
     go_wp2
     go_ret3
     refine ⟨.slice none 0 0, ?_, ?_, G5⟩
     ·rw [HF.out]; rfl
     ·rw [HF.out]; exact World.ownsRow_nil _ _ _ _
    ·obtain ⟨f, hf⟩ : ∃ f, f = st.length - a := ⟨_, rfl⟩
     have hfa : st.length = f + a := by omega
     have q1 : IntKind.i64.wrap ((st.length : Int) - (a : Int)) = (f : Int) := by rw [IntKind.wrap_i64]; omega
     have q2 : ¬ (f : Int) < 0 := by omega
     have HFN : Hid (¬ st.length < a) := hfew
     have HFE : Hid (f = st.length - a) := hf
     have hle : (f : Int) ≤ (st.length : Int) := by omega
     have HFL : Hid (st.length = f + a) := hfa
     clear hfew hf hfa
     have HPS : Hid ((st.drop f).length = a) := by show (st.drop f).length = a; rw [List.length_drop]; have := HFL.out; omega
     have HPV : Hid (∀ p ∈ st.drop f, p.val ≤ 4294967295) := fun p hp => HV.out p (List.mem_of_mem_drop hp)
     have HNX2 : Hid (A9 x (st.drop f) = 0 → j8 [] 0 t = j8 (st.take f ++ [I6 x (st.drop f)]) (k + 1) (t.drop (k + 1))) := fun h0 => by
      refine HNX.out _ ?_
      have := ab0 HHA.out HFN.out (by rw [← HFE.out]; exact h0)
      rw [← HFE.out] at this
      exact this
     have HST2 : Hid (A9 x (st.drop f) ≠ 0 → j8 [] 0 t = .error (k, A9 x (st.drop f))) := fun h0 => by
      refine HST.out _ ?_
      have := aV7 HHA.out HFN.out (by rw [← HFE.out]; exact h0)
      rw [← HFE.out] at this
      exact this
     have HV2 : Hid (∀ p ∈ st.take f ++ [I6 x (st.drop f)], p.val ≤ 4294967295) := fun p hp => by
      rcases List.mem_append.1 hp with hp | hp
      ·exact HV.out p (List.mem_of_mem_take hp)
      ·rw [List.mem_singleton.1 hp]; exact ax2 hxn HPV.out
     have HLN : Hid ((st.take f ++ [I6 x (st.drop f)]).length = f + 1) := by show List.length _ = _; rw [List.length_append, List.length_take, List.length_singleton]; have := HFL.out; omega
     have HCVP := S5 HO5.out
     rcases HO5.out.2 with ⟨hv0, hn0⟩ | ⟨g, cap', cur, hv0, -⟩
     ·simp only [Value.slice.injEq] at hv0
      obtain ⟨rfl, -, rfl⟩ := hv0
      have hst0 : st = [] := List.eq_nil_of_length_eq_zero hn0
      subst hst0
      obtain rfl : f = 0 := by have := HFL.out; simp at this; omega
      obtain rfl : a = 0 := by have := HFL.out; simp at this; omega
      have HLO : Hid (∀ W, T6 W w.heap.size (.slice none ([] : List Pt).length 0) [] → W.ownsRow w.heap.size 58 3 (.slice none 0 0) 0 (r9 ptC (([] : List Pt).take 0))) := fun W h => World.ownsRow_nil _ _ _ _
      have HPC : Hid (∀ W, T6 W w.heap.size (.slice none ([] : List Pt).length 0) [] → CV W none (r9 ptC (([] : List Pt).drop 0))) := fun W h => ⟨fun _ => rfl, fun ad had => by cases had⟩
      have HOB : Hid (∀ x, (Value.slice none 0 0).ownBlock = some x → w.heap.size ≤ x) := fun x hx => by cases hx
      have HOK : Hid (∀ (W : World) (P t' : Nat) (cs : Array Value), T6 W w.heap.size (.slice none ([] : List Pt).length 0) [] → VAt W P t' cs → t' ≠ 58 → (Value.slice none 0 0).ownBlock ≠ some P) := fun W P t' cs _ _ _ e => by cases e
      clear HCVP hn0
      clear q1 q2 hle
      have q1 : IntKind.i64.wrap 0 = 0 := rfl
      go_upto_region 10 with fail
      have TW := HT.out.kept G5
      have HG5 : Hid (w.grownBy w5 none) := G5
      have LP := HP5.out
      have LN := HN5.out
      have HZN : Hid ((Tryz.prog.info? 43).map (·.size) = some cs.toArray.size ∧ (Tryz.prog.info? 77).map (·.size) = some rs.size) := ⟨HZ.out.2.1, HRL.out.1⟩
      have CF := HFA.out _ HPS.out none (0) w5 TW (HPC.out w5 HO5.out)
      clear TW G5 HFA HZ HRL d0
      go_wp2_with (first | refine wpList_load_row rfl 77 (.tmp 10) rfl P rfl 77 rs (0, 0) _ LP Tryz.underlying77 rfl HZN.out.2 ?_ | refine wpList_load_row rfl 43 (.tmp 9) rfl N rfl 43 cs.toArray (0, 0) _ LN Tryz.underlying43 rfl HZN.out.1 ?_)
      refine CF.mono ?_
      rintro e w6 ⟨rfl, K6⟩
      have HP6 : Hid (VAt w6.drew P 77 rs ∧ VAt w6.drew N 43 cs.toArray) := ⟨(HP5.out.kept K6).kept (f9 w6 1 none), (HN5.out.kept K6).kept (f9 w6 1 none)⟩
      have HO6 : Hid (T6 w6.drew w.heap.size (.slice none ([] : List Pt).length 0) ([] : List Pt)) := x9 (x9 HO5.out K6) (f9 w6 1 none)
      have G6 := d3 HG5.out K6
      have HG6 : Hid (w.grownBy w6.drew none) := d3 G6 (f9 w6 1 none)
      clear CF LP LN HP5 HN5 HO5 K6 HG5
      by_cases hfz : A9 x (([] : List Pt).drop 0) = 0
      ·rw [hfz]
       have HWN := HNX2.out hfz
       have HHW : Hid _ := HWN
       have HJ : Hid _ := HJA.out _ HPS.out hfz HPV.out none (0)
       clear hfz HWN HNX2 HST2 HJA HNX HST G6
       go_upto_region 13 with fail
       refine wp_region_held_drew (S := fun W => VAt W P 77 rs ∧ VAt W N 43 cs.toArray) (by kernel_rfl) HP6.out (fun hHeld => ?_)
       refine wpT (i := 0) (v := .slice none ([] : List Pt).length 0) rfl (Or.inl ⟨by rfl, fun W hW => ?_⟩) hHeld ?_
       ·clear hW
        go_simp
       try simp only [Act.put, a0, a1, a3, a4, a5]
       refine wpT (i := 1) (v := .int .i64 0) rfl (Or.inl ⟨by rfl, fun W hW => ?_⟩) hHeld ?_
       ·clear hW
        go_simp
       try simp only [Act.put, a0, a1, a2, a3, a4, a5]
       refine wpT (i := 2) (v := .slice none 0 0) rfl (Or.inl ⟨by rfl, fun W hW => ?_⟩) hHeld ?_
       ·clear hW
        go_simp
       try simp only [Act.put, a0, a1, a2, a3, a4, a5]
       refine wpT (i := 3) (v := .agg rs) rfl (J3 (by rfl) _ _ rfl P rfl 77 rs _ (fun W hW => hW.1) Tryz.underlying77 rfl HZN.out.2) hHeld ?_
       try simp only [Act.put, a0, a1, a2, a3, a4, a5]
       refine wpT (i := 4) (v := .agg cs.toArray) rfl (J3 (by rfl) _ _ rfl N rfl 43 cs.toArray _ (fun W hW => hW.2) Tryz.underlying43 rfl HZN.out.1) hHeld ?_
       try simp only [Act.put, a0, a1, a2, a3, a4, a5]
       refine wpT (i := 5) (v := .slice none 0 (0)) rfl (Or.inl ⟨by rfl, fun W hW => ?_⟩) hHeld ?_
       ·clear hW
        go_simp
       try simp only [Act.put, a0, a1, a2, a3, a4, a5]
       refine wpR (rs := [6]) (AllReadyH.cons rfl (fun K hK => ?_) AllReadyH.nil)
       go_simp
       refine (HJ.out _ (HPC.out _ HO6.out)).mono ?_
       rintro e w7 ⟨rfl, K7⟩
       have O7 := x9 HO6.out K7
       have G7 := d3 HG6.out K7
       go_wp2_with fail
       refine hK.out _ _ ⟨hHeld.1.kept K7, hHeld.2.kept K7⟩ (fun hHeld => ?_)
       clear hK K K7 HO6 HG6 HJ
       try simp only [Act.put, a0, a1, a2, a3, a4, a5]
       refine wpR (rs := [7]) (AllReadyH.cons rfl (fun K hK => ?_) AllReadyH.nil)
       refine a4P (by rfl) 54 1 _ (by rfl) _ (by kernel_rfl) (ptC (I6 x (([] : List Pt).drop 0))) 58 (a8R _) ?_
       intro ad w8 C8 K8
       have O8 := x9 O7 K8
       have G8 := d3 G7 K8
       refine hK.out _ _ ⟨hHeld.1.kept K8, hHeld.2.kept K8⟩ (fun hHeld => ?_)
       clear hK K K8 O7 G7
       try simp only [Act.put, a0, a1, a2, a3, a4, a5]
       refine wpR (rs := [8]) (AllReadyH.cons rfl (fun K hK => ?_) AllReadyH.nil)
       refine a3e (by rfl) (.tmp 55) (.tmp 60) 54 (by rfl) 58 i0 _ 3 16 Tryz.underlying54 HI.out HI1.out HI2.out HI3.out rfl (by decide) w.heap.size (.slice none 0 0) 0 (r9 ptC (([] : List Pt).take 0)) (by rfl) (HLO.out _ O8) ad 1 1 (ptC (I6 x (([] : List Pt).drop 0))) (by rfl) rfl C8 (a4E _) (by unfold maxLen; omega) (by omega) G8.size ?_
       intro v9 w9 O9 K9 B9
       have G9 := V0 G8 K9 HOB.out
       have HP9 : VAt w9 P 77 rs ∧ VAt w9 N 43 cs.toArray := ⟨hHeld.1.grown K9 (HOK.out _ _ _ _ O8 hHeld.1 (by decide)), hHeld.2.grown K9 (HOK.out _ _ _ _ O8 hHeld.2 (by decide))⟩
       have O10 : T6 w9 w.heap.size v9 (([] : List Pt).take 0 ++ [I6 x (([] : List Pt).drop 0)]) := by
        unfold T6
        rw [HLN.out, a84, a86]
        exact O9
       have HFIN : Hid (T6 w9 w.heap.size v9 (([] : List Pt).take 0 ++ [I6 x (([] : List Pt).drop 0)]) ∧ (∀ p ∈ (([] : List Pt).take 0 ++ [I6 x (([] : List Pt).drop 0)]), p.val ≤ 4294967295) ∧ j8 [] 0 t = j8 (([] : List Pt).take 0 ++ [I6 x (([] : List Pt).drop 0)]) (k + 1) (t.drop (k + 1)) ∧ w.grownBy w9 none) := ⟨O10, HV2.out, HHW.out, G9⟩
       refine hK.out _ _ HP9 (fun hHeld => ?_)
       clear hK K O8 O9 O10 K9 B9 G8 G9 C8 HP9
       try simp only [Act.put, a0, a1, a2, a3, a4, a5]
       refine wpT (i := 9) (v := v9) rfl (Or.inl ⟨by rfl, fun W hW => ?_⟩) hHeld ?_
       ·clear hW
        go_simp
       try simp only [Act.put, a0, a1, a2, a3, a4, a5]
       refine wpAnyH_done (by kernel_rfl) ?_ _
       clear hHeld
       go_wp2
       go_roundw
       case rel => exact ⟨k + 1, _, by omega, by rw [HLN.out]; omega, by go_num, HFIN⟩
       case measure => simp [intOf]; omega
      ·have HF : Hid _ := HST2.out hfz
       have e1 : (A9 x (([] : List Pt).drop 0) != 0) = true := by rw [bne_iff_ne]; exact hfz
       clear hfz HNX2 HST2 HJA HNX HST HO6 HP6 HV2 HLO HPC HPS HPV
       generalize A9 x (([] : List Pt).drop 0) = fe at *
       go_wp2
       go_ret3
       refine ⟨.slice none 0 0, ?_, ?_, G6⟩
       ·rw [HF.out]; rfl
       ·rw [HF.out]; exact World.ownsRow_nil _ _ _ _
     ·simp only [Value.slice.injEq] at hv0
      obtain ⟨rfl, -, rfl⟩ := hv0
      have HSL : Hid (st.length - f = a) := by show _ - _ = _; have := HFL.out; omega
      have HLO : Hid (∀ W, T6 W w.heap.size (.slice (some ⟨g, 0, none⟩) st.length cL) st → W.ownsRow w.heap.size 58 3 (.slice (some ⟨g, 0, none⟩) f cL) f (r9 ptC (st.take f))) := fun W h => by
       have := aI1 h (m := f) (by have := HFL.out; omega)
       rw [a87 a1Q] at this
       exact this
      have HPC : Hid (∀ W, T6 W w.heap.size (.slice (some ⟨g, 0, none⟩) st.length cL) st → CV W (if cL = f then some ⟨g, 0, none⟩ else some ⟨g, f * 3, none⟩) (r9 ptC (st.drop f))) := fun W h => by
       obtain ⟨ao', cap', e, C', -⟩ := S5 h
       simp only [Value.slice.injEq] at e
       obtain ⟨rfl, -, rfl⟩ := e
       refine an5 a1Q C' f _ ?_
       by_cases hcf : cL = f
       ·rw [if_pos hcf]
        exact .inr ⟨by omega, by simp⟩
       ·rw [if_neg hcf]
        exact .inl rfl
      have HOB : Hid (∀ x, (Value.slice (some ⟨g, 0, none⟩) f cL).ownBlock = some x → w.heap.size ≤ x) := fun x hx => by
       cases hx
       exact (HO5.out.lt g rfl).1
      have HOK : Hid (∀ (W : World) (P t' : Nat) (cs : Array Value), T6 W w.heap.size (.slice (some ⟨g, 0, none⟩) st.length cL) st → VAt W P t' cs → t' ≠ 58 → (Value.slice (some ⟨g, 0, none⟩) f cL).ownBlock ≠ some P) := fun W P t' cs h1 h2 h3 e => by
       cases e
       exact aH9 h1 h2 h3 rfl
      obtain ⟨PA, hPA⟩ : ∃ PA, (if cL = f then some (⟨g, 0, none⟩ : Addr) else some ⟨g, f * 3, none⟩) = PA := ⟨_, rfl⟩
      rw [hPA] at HPC
      clear HCVP
      go_upto_region 10 with fail
      rw [HSL.out]
      have hcf : ¬ cL < f := by have := HFL.out; omega
      clear hPA
      have TW := HT.out.kept G5
      have HG5 : Hid (w.grownBy w5 none) := G5
      have LP := HP5.out
      have LN := HN5.out
      have HZN : Hid ((Tryz.prog.info? 43).map (·.size) = some cs.toArray.size ∧ (Tryz.prog.info? 77).map (·.size) = some rs.size) := ⟨HZ.out.2.1, HRL.out.1⟩
      have CF := HFA.out _ HPS.out PA (cL - f) w5 TW (HPC.out w5 HO5.out)
      clear TW G5 HFA HZ HRL d0
      go_wp2_with (first | refine wpList_load_row rfl 77 (.tmp 10) rfl P rfl 77 rs (0, 0) _ LP Tryz.underlying77 rfl HZN.out.2 ?_ | refine wpList_load_row rfl 43 (.tmp 9) rfl N rfl 43 cs.toArray (0, 0) _ LN Tryz.underlying43 rfl HZN.out.1 ?_)
      refine CF.mono ?_
      rintro e w6 ⟨rfl, K6⟩
      have HP6 : Hid (VAt w6.drew P 77 rs ∧ VAt w6.drew N 43 cs.toArray) := ⟨(HP5.out.kept K6).kept (f9 w6 1 none), (HN5.out.kept K6).kept (f9 w6 1 none)⟩
      have HO6 : Hid (T6 w6.drew w.heap.size (.slice (some ⟨g, 0, none⟩) st.length cL) st) := x9 (x9 HO5.out K6) (f9 w6 1 none)
      have G6 := d3 HG5.out K6
      have HG6 : Hid (w.grownBy w6.drew none) := d3 G6 (f9 w6 1 none)
      clear CF LP LN HP5 HN5 HO5 K6 HG5
      by_cases hfz : A9 x (st.drop f) = 0
      ·rw [hfz]
       have HWN := HNX2.out hfz
       have HHW : Hid _ := HWN
       have HJ : Hid _ := HJA.out _ HPS.out hfz HPV.out PA (cL - f)
       clear hfz HWN HNX2 HST2 HJA HNX HST G6
       go_upto_region 13 with fail
       refine wp_region_held_drew (S := fun W => VAt W P 77 rs ∧ VAt W N 43 cs.toArray) (by kernel_rfl) HP6.out (fun hHeld => ?_)
       refine wpT (i := 0) (v := .slice (some ⟨g, 0, none⟩) st.length cL) rfl (Or.inl ⟨by rfl, fun W hW => ?_⟩) hHeld ?_
       ·clear hW
        go_simp
       try simp only [Act.put, a0, a1, a3, a4, a5]
       refine wpT (i := 1) (v := .int .i64 (f : Int)) rfl (Or.inl ⟨by rfl, fun W hW => ?_⟩) hHeld ?_
       ·clear hW
        go_simp
       try simp only [Act.put, a0, a1, a2, a3, a4, a5]
       refine wpT (i := 2) (v := .slice (some ⟨g, 0, none⟩) f cL) rfl (Or.inl ⟨by rfl, fun W hW => ?_⟩) hHeld ?_
       ·clear hW
        go_simp
       try simp only [Act.put, a0, a1, a2, a3, a4, a5]
       refine wpT (i := 3) (v := .agg rs) rfl (J3 (by rfl) _ _ rfl P rfl 77 rs _ (fun W hW => hW.1) Tryz.underlying77 rfl HZN.out.2) hHeld ?_
       try simp only [Act.put, a0, a1, a2, a3, a4, a5]
       refine wpT (i := 4) (v := .agg cs.toArray) rfl (J3 (by rfl) _ _ rfl N rfl 43 cs.toArray _ (fun W hW => hW.2) Tryz.underlying43 rfl HZN.out.1) hHeld ?_
       try simp only [Act.put, a0, a1, a2, a3, a4, a5]
       refine wpT (i := 5) (v := .slice PA a (cL - f)) rfl (Or.inl ⟨by rfl, fun W hW => ?_⟩) hHeld ?_
       ·clear hW
        go_simp
       try simp only [Act.put, a0, a1, a2, a3, a4, a5]
       refine wpR (rs := [6]) (AllReadyH.cons rfl (fun K hK => ?_) AllReadyH.nil)
       go_simp
       refine (HJ.out _ (HPC.out _ HO6.out)).mono ?_
       rintro e w7 ⟨rfl, K7⟩
       have O7 := x9 HO6.out K7
       have G7 := d3 HG6.out K7
       go_wp2_with fail
       refine hK.out _ _ ⟨hHeld.1.kept K7, hHeld.2.kept K7⟩ (fun hHeld => ?_)
       clear hK K K7 HO6 HG6 HJ
       try simp only [Act.put, a0, a1, a2, a3, a4, a5]
       refine wpR (rs := [7]) (AllReadyH.cons rfl (fun K hK => ?_) AllReadyH.nil)
       refine a4P (by rfl) 54 1 _ (by rfl) _ (by kernel_rfl) (ptC (I6 x (st.drop f))) 58 (a8R _) ?_
       intro ad w8 C8 K8
       have O8 := x9 O7 K8
       have G8 := d3 G7 K8
       refine hK.out _ _ ⟨hHeld.1.kept K8, hHeld.2.kept K8⟩ (fun hHeld => ?_)
       clear hK K K8 O7 G7
       try simp only [Act.put, a0, a1, a2, a3, a4, a5]
       refine wpR (rs := [8]) (AllReadyH.cons rfl (fun K hK => ?_) AllReadyH.nil)
       refine a3e (by rfl) (.tmp 55) (.tmp 60) 54 (by rfl) 58 i0 _ 3 16 Tryz.underlying54 HI.out HI1.out HI2.out HI3.out rfl (by decide) w.heap.size (.slice (some ⟨g, 0, none⟩) f cL) f (r9 ptC (st.take f)) (by rfl) (HLO.out _ O8) ad 1 1 (ptC (I6 x (st.drop f))) (by rfl) rfl C8 (a4E _) (by unfold maxLen; omega) (by omega) G8.size ?_
       intro v9 w9 O9 K9 B9
       have G9 := V0 G8 K9 HOB.out
       have HP9 : VAt w9 P 77 rs ∧ VAt w9 N 43 cs.toArray := ⟨hHeld.1.grown K9 (HOK.out _ _ _ _ O8 hHeld.1 (by decide)), hHeld.2.grown K9 (HOK.out _ _ _ _ O8 hHeld.2 (by decide))⟩
       have O10 : T6 w9 w.heap.size v9 (st.take f ++ [I6 x (st.drop f)]) := by
        unfold T6
        rw [HLN.out, a84, a86]
        exact O9
       have HFIN : Hid (T6 w9 w.heap.size v9 (st.take f ++ [I6 x (st.drop f)]) ∧ (∀ p ∈ (st.take f ++ [I6 x (st.drop f)]), p.val ≤ 4294967295) ∧ j8 [] 0 t = j8 (st.take f ++ [I6 x (st.drop f)]) (k + 1) (t.drop (k + 1)) ∧ w.grownBy w9 none) := ⟨O10, HV2.out, HHW.out, G9⟩
       refine hK.out _ _ HP9 (fun hHeld => ?_)
       clear hK K O8 O9 O10 K9 B9 G8 G9 C8 HP9
       try simp only [Act.put, a0, a1, a2, a3, a4, a5]
       refine wpT (i := 9) (v := v9) rfl (Or.inl ⟨by rfl, fun W hW => ?_⟩) hHeld ?_
       ·clear hW
        go_simp
       try simp only [Act.put, a0, a1, a2, a3, a4, a5]
       refine wpAnyH_done (by kernel_rfl) ?_ _
       clear hHeld
       go_wp2
       go_roundw
       case rel => exact ⟨k + 1, _, by omega, by rw [HLN.out]; omega, by go_num, HFIN⟩
       case measure => simp [intOf]; omega
      ·have HF : Hid _ := HST2.out hfz
       have e1 : (A9 x (st.drop f) != 0) = true := by rw [bne_iff_ne]; exact hfz
       clear hfz HNX2 HST2 HJA HNX HST HO6 HP6 HV2 HLO HPC HPS HPV
       generalize A9 x (st.drop f) = fe at *
       go_wp2
       go_ret3
       refine ⟨.slice none 0 0, ?_, ?_, G6⟩
       ·rw [HF.out]; rfl
       ·rw [HF.out]; exact World.ownsRow_nil _ _ _ _
  ·obtain ⟨O, hv, hw, G⟩ := HI4.out
   have HF : Hid (j8 [] 0 t = .ok st) := by
    rw [List.drop_eq_nil_of_le (by omega)] at hw
    exact hw
   clear hv hw HI4
   go_wp2
   go_ret3
   refine ⟨u7, ?_, ?_, G⟩
   ·rw [HF.out]; rfl
   ·rw [HF.out]; exact O
def Pt.ok (p : Pt) : Prop := (p.fixed = false → p.val = 0) ∧ (p.truth = true → p.fixed = false)
def a1d (t : List Ng) : Value := .tuple #[.int .i64 ((J4 t).1 : Int), .int .i64 (J4 t).2]
theorem a7L (ao : Option Addr) (cap : Nat) (t : List Ng) (w : World) (C : CV w ao (p9 t)) (hm : t.length * 72 ≤ 140737488355328) (hn : ∀ x ∈ t, x.n ≤ 4294967295) :
  Calls Tryz.prog 16 #[.slice ao t.length cap] w fun e w' => e = .returned (a1d t) ∧ w.grownBy w' none := by
 have HC : Hid (CV w ao (p9 t)) := C
 obtain ⟨E, hE⟩ : ∃ E, a1d t = E := ⟨_, rfl⟩
 rw [hE]
 have HE : Hid (a1d t = E) := hE
 have HNN : Hid (∀ x ∈ t, x.n ≤ 4294967295) := hn
 clear C hE hn
 go_enter Tryz.func16, Tryz.ntmps16
 go_wp2_with fail
 refine (aQ3 _).mono ?_
 rintro e w1 ⟨R, rfl, T, K1⟩
 have CW := b0a ao cap t R w1 T (HC.out.keptNone K1) hm HNN.out
 have HT : Hid (M8 R w1) := T
 have HK1 : Hid (w.grownBy w1 none) := K1
 clear T K1
 go_wp2_with fail
 refine CW.mono ?_
 rintro e w2 ⟨v, hR, O, K2⟩
 clear CW
 cases hwk : j8 [] 0 t with
 | error er =>
  obtain ⟨k, er⟩ := er
  rw [hwk] at hR
  simp only [a6N] at hR
  subst hR
  have h3 := a6M t [] 0 hwk
  have e1 : (er != 0) = true := by rw [bne_iff_ne]; omega
  have HF : Hid (E = .tuple #[.int .i64 (k : Int), .int .i64 er]) := by
   show E = _
   rw [← HE.out, a1d, J4, hwk]
  have G := d3 HK1.out K2
  clear O hwk h3
  go_wp2
  go_ret2
  exact ⟨by rw [HF.out]; rfl, G⟩
 | ok st =>
  rw [hwk] at hR O
  simp only [a6N] at hR
  subst hR
  have HO : Hid (T6 w2 w1.heap.size v st) := O
  obtain ⟨aL, cL, rfl, CL, -⟩ := S5 O
  have HG : Hid (w.grownBy w2 none) := d3 HK1.out K2
  have HCK : Hid (J4 t = if st.length ≠ 1 then (t.length, (120 : Int)) else if (st.getD 0 pt0).truth = false then (t.length - 1, 121) else match S9 0 0 t with | some k => (k, (126 : Int)) | none => (0, 0)) := by
   show _ = _
   rw [J4, hwk]
   rfl
  have hlen := ad2 t [] st 0 hwk
  simp only [ad4, List.length_nil, Nat.zero_add] at hlen CL ⊢
  by_cases h1 : st.length = 1
  ·match st, h1 with
   | [p], _ =>
    obtain ⟨b, o, rfl, hc⟩ := CL.pts a1Q (k := 0) (by simp)
    have c0 := hc 0 (by simp) 0 (.int .i64 (if p.truth = true then 0 else 1)) rfl
    simp only [Nat.zero_mul, Nat.add_zero] at c0
    have hl1 : 1 ≤ t.length := by simpa using hlen
    rw [show [p].length = 1 from rfl]
    clear CL hc O hlen hwk HO
    cases hp : p.truth with
    | false =>
     rw [hp] at c0
     have HF : Hid (E = .tuple #[.int .i64 ((t.length - 1 : Nat) : Int), .int .i64 121]) := by
      show E = _
      rw [← HE.out, a1d, HCK.out]
      simp [hp]
     have q : ((t.length - 1 : Nat) : Int) = (t.length : Int) - 1 := by omega
     have w3 : IntKind.i64.wrap ((t.length : Int) - 1) = (t.length : Int) - 1 := by rw [IntKind.wrap_i64]; omega
     rw [q] at HF
     clear q HCK hp
     go_wp2
     go_ret2
     exact ⟨by rw [HF.out]; rfl, HG.out⟩
    | true =>
     rw [hp] at c0
     have HF : Hid (J4 t = match S9 0 0 t with | some k => (k, (126 : Int)) | none => (0, 0)) := by
      show _ = _
      rw [HCK.out]
      simp [hp]
     have CH := at9 ao cap t R w2 (HT.out.kept K2) (HC.out.keptNone HG.out) hm
     clear HCK hp
     go_wp2_with fail
     refine CH.mono ?_
     rintro e w3 ⟨rfl, K3⟩
     have G3 := d3 HG.out K3
     clear CH K3
     cases hh : S9 0 0 t with
     | none =>
      have HF2 : Hid (E = .tuple #[.int .i64 0, .int .i64 0]) := by
       show E = _
       rw [← HE.out, a1d, HF.out, hh]
       rfl
      simp only [a3x]
      clear hh HF
      go_wp2
      go_ret2
      exact ⟨by rw [HF2.out]; rfl, G3⟩
     | some q =>
      have HF2 : Hid (E = .tuple #[.int .i64 (q : Int), .int .i64 126]) := by
       show E = _
       rw [← HE.out, a1d, HF.out, hh]
      simp only [a3x]
      clear hh HF
      go_wp2
      go_ret2
      exact ⟨by rw [HF2.out]; rfl, G3⟩
  ·have e1 : ((st.length : Int) != 1) = true := by rw [bne_iff_ne]; omega
   have HF : Hid (E = .tuple #[.int .i64 (t.length : Int), .int .i64 120]) := by
    show E = _
    rw [← HE.out, a1d, HCK.out, if_pos h1]
   clear h1 CL O hwk HO HCK hlen
   go_wp2
   go_ret2
   exact ⟨by rw [HF.out]; rfl, HG.out⟩
def iv (z : Int) : Value := .int .i64 z
abbrev a5h (w : World) (base : Nat) (v : Value) (bs : List Int) : Prop := w.ownsRow base 3 1 v bs.length (bs.map iv)
def a5i (w : World) (row : Option Nat) (g g' n n' : Nat) (wr : World) : Prop := J9 wr 3 g n ∧ J9 wr 3 g' n' ∧ w.grownBy wr row
theorem a5i.set {w wr : World} {row : Option Nat} {g g' n n' : Nat} (h : a5i w row g g' n n' wr) {p : Addr} (hp : row = some p.block ∨ w.heap.size ≤ p.block) (u : Value) : a5i w row g g' n n' (wr.setCell p u) :=
 ⟨h.1.setCell _ _, h.2.1.setCell _ _, N8 h.2.2 _ _ hp⟩
def sv (n : Nat) : Value := .int .i64 (n : Int)
abbrev af1 (w : World) (base : Nat) (v : Value) (ss : List Nat) : Prop := w.ownsRow base 3 1 v ss.length (ss.map sv)
theorem a6x {w : World} {e : TypeId} {g n : Nat} (b : Nat) : ∀ (vs : List Value) (o : Nat) (w : World), J9 w e g n → J9 (w.setCells b o vs) e g n
 | [], _, _, h => h
 | v :: r, o, _, h => a6x (w := w) b r (o + 1) _ (h.setCell _ v)
theorem a9O {w : World} {row : Option Nat} (b : Nat) (hp : row = some b ∨ w.heap.size ≤ b) : ∀ (vs : List Value) (o : Nat) (W : World), w.grownBy W row → w.grownBy (W.setCells b o vs) row
 | [], _, _, h => h
 | v :: r, o, _, h => a9O b hp r (o + 1) _ (N8 h ⟨b, o, none⟩ v hp)
def a58 (w : World) (row : Option Nat) (g g' n n' : Nat) (wr : World) : Prop := J9 wr 43 g n ∧ J9 wr 43 g' n' ∧ w.grownBy wr row
theorem a58.set {w wr : World} {row : Option Nat} {g g' n n' : Nat} (h : a58 w row g g' n n' wr) {b : Nat} (o : Nat) (vs : List Value) (hp : row = some b ∨ w.heap.size ≤ b) : a58 w row g g' n n' (wr.setCells b o vs) :=
 ⟨a6x (w := w) b vs o wr h.1, a6x (w := w) b vs o wr h.2.1, a9O b hp vs o wr h.2.2⟩

end Go.Proofs.YtklipelnjgpnjaaGreatDoor
