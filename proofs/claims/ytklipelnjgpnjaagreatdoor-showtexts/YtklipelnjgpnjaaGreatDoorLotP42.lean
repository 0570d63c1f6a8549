import Derived.Test.YtklipelnjgpnjaaGreatDoorLotP40
import Derived.Test.YtklipelnjgpnjaaGreatDoorTyBk
import Derived.Test.YtklipelnjgpnjaaGreatDoorLotP12
import Derived.Test.YtklipelnjgpnjaaGreatDoorLotP14
import Derived.Test.YtklipelnjgpnjaaGreatDoorLotP21
import Derived.Test.YtklipelnjgpnjaaGreatDoorShO5
import Derived.Test.YtklipelnjgpnjaaGreatDoorLotP33
import Derived.Test.YtklipelnjgpnjaaGreatDoorShO3
namespace Go.Proofs.YtklipelnjgpnjaaGreatDoor
open Go.RowKit
set_option maxRecDepth 100000
set_option maxHeartbeats 8000000 in
theorem trefcheck_of (ao : Option Addr) (cap : Nat) (t : List Ng) (HNODE : ∀ x ∈ t, NodeOk x) (w : World) (C : CV w ao (flatG t)) (hm : t.length * 72 ≤ 140737488355328) (hn : ∀ x ∈ t, x.n ≤ 4294967295) :
  Calls Tryz.prog 38 #[.slice ao t.length cap] w fun e w' => e = .returned (checkR t) ∧ w.grownBy w' none := by
 have HC : Hid (CV w ao (flatG t)) := C
 obtain ⟨E, hE⟩ : ∃ E, checkR t = E := ⟨_, rfl⟩
 rw [hE]
 have HE : Hid (checkR t = E) := hE
 have CW := refwalk_any HNODE ao cap w C hm hn
 clear C hE hn HNODE
 go_enter Tryz.func38, Tryz.ntmps38
 go_wp2_with fail
 refine CW.mono ?_
 rintro e w2 ⟨v, hR, O, K2⟩
 clear CW
 cases hwk : walkG [] 0 t with
 | error er =>
  obtain ⟨k, er⟩ := er
  rw [hwk] at hR
  simp only [walkR] at hR
  subst hR
  have h3 := walkG_er t [] 0 hwk
  have e1 : (er != 0) = true := by rw [bne_iff_ne]; omega
  have HF : Hid (E = .tuple #[.int .i64 (k : Int), .int .i64 er]) := by
   show E = _
   rw [← HE.out, checkR, checkG, hwk]
  clear O hwk h3
  go_wp2
  go_ret2
  exact ⟨by rw [HF.out]; rfl, K2⟩
 | ok st =>
  rw [hwk] at hR O
  simp only [walkR] at hR
  subst hR
  obtain ⟨aL, cL, rfl, CL, -⟩ := cv_of_row O
  have HG : Hid (w.grownBy w2 none) := K2
  have HCK : Hid (checkG t = if st.length ≠ 1 then (t.length, (120 : Int)) else if (st.getD 0 pt0).truth = false then (t.length - 1, 121) else match heavyG 0 0 t with | some k => (k, (126 : Int)) | none => (0, 0)) := by
   show _ = _
   rw [checkG, hwk]
   rfl
  have hlen := walkG_len t [] st 0 hwk
  simp only [walkL, List.length_nil, Nat.zero_add] at hlen CL ⊢
  by_cases h1 : st.length = 1
  ·match st, h1 with
   | [p], _ =>
    obtain ⟨b, o, rfl, hc⟩ := CL.pts pqC_len (k := 0) (by simp)
    have c0 := hc 0 (by simp) 0 (.bool p.truth) rfl
    simp only [Nat.zero_mul, Nat.add_zero] at c0
    have hl1 : 1 ≤ t.length := by simpa using hlen
    rw [show [p].length = 1 from rfl]
    clear CL hc O hlen hwk
    cases hp : p.truth with
    | false =>
     rw [hp] at c0
     have HF : Hid (E = .tuple #[.int .i64 ((t.length - 1 : Nat) : Int), .int .i64 121]) := by
      show E = _
      rw [← HE.out, checkR, HCK.out]
      simp [hp]
     have q : ((t.length - 1 : Nat) : Int) = (t.length : Int) - 1 := by omega
     have w3 : IntKind.i64.wrap ((t.length : Int) - 1) = (t.length : Int) - 1 := by rw [IntKind.wrap_i64]; omega
     rw [q] at HF
     clear q HCK hp
     go_wp2
     go_ret2
     exact ⟨by rw [HF.out]; rfl, HG.out⟩
    | true =>
     rw [hp] at c0
     have HF : Hid (checkG t = match heavyG 0 0 t with | some k => (k, (126 : Int)) | none => (0, 0)) := by
      show _ = _
      rw [HCK.out]
      simp [hp]
     clear HCK hp K2
     go_wp2
     clear c0 hl1
     go_loopw [7, 8] (fun s i wr => ∃ k S : Nat, k ≤ t.length ∧ S ≤ 3000 ∧ s = .int .i64 (S : Int) ∧ i = .int .i64 k ∧ Hid (heavyG S k (t.drop k) = heavyG 0 0 t ∧ w.grownBy wr none)) (fun _ i _ => t.length - (intOf i).toNat)
     case atStart => exact ⟨0, 0, Nat.zero_le _, Nat.zero_le _, rfl, rfl, rfl, HG.out⟩
     case round =>
      obtain ⟨k, S, hk, hS, rfl, rfl, H1⟩ := hrel
      by_cases hlt : k < t.length
      ·obtain ⟨b', o', rfl, hc⟩ := (HC.out.keptNone H1.out.2).ngs hlt
       have HR : Hid (wr.rangeAt b' (o' + k * 24) t[k].cells) := hc k hlt
       have HZ : Hid ((Tryz.prog.info? 43).map (·.size) = some t[k].cells.length) := ng_len _
       have CWG := weigh12_any t[k] wr
       have hw80 : weighG t[k] ≤ 80 := by
        have := weightG_le [t[k]]
        rw [weightG_one] at this
        simpa using this
       have HN : Hid (heavyG S k (t.drop k) = if 3000 < S + weighG t[k] then some k else heavyG (S + weighG t[k]) (k + 1) (t.drop (k + 1))) := by
        show heavyG S k (t.drop k) = _
        rw [List.drop_eq_getElem_cons hlt, heavyG]
       obtain ⟨wg, hwg⟩ : ∃ wg, weighG t[k] = wg := ⟨_, rfl⟩
       rw [hwg] at CWG HN hw80
       obtain ⟨cs, hcs⟩ : ∃ cs, t[k].cells = cs := ⟨_, rfl⟩
       rw [hcs] at HR HZ CWG
       have hl : (k : Int) < (t.length : Int) := by omega
       have z0 : (0 : Int) ≤ (k : Int) := by omega
       have w3 : IntKind.i64.wrap ((k : Int) + 1) = (k : Int) + 1 := by rw [IntKind.wrap_i64]; omega
       have w4 : IntKind.i64.wrap ((S : Int) + (wg : Int)) = (S : Int) + (wg : Int) := by rw [IntKind.wrap_i64]; omega
       clear hc hwg hcs
       go_wp2_with (refine wpList_load_mid rfl 43 (.tmp 41) rfl b' (o' + k * 24) (by simp [Act.eval]) cs _ HR.out Tryz.underlying43 rfl HZ.out ?_)
       refine CWG.mono ?_
       rintro e w5 ⟨rfl, K5⟩
       have G5 := grown_trans H1.out.2 K5
       clear CWG K5 HR HZ
       by_cases hgt : 3000 < S + wg
       ·have t1 : (3000 : Int) < (S : Int) + (wg : Int) := by omega
        have HF2 : Hid (E = .tuple #[.int .i64 (k : Int), .int .i64 126]) := by
         show E = _
         have := H1.out.1
         rw [HN.out, if_pos hgt] at this
         rw [← HE.out, checkR, HF.out, ← this]
        clear hgt HN H1
        go_wp2
        go_ret2
        exact ⟨by rw [HF2.out]; rfl, G5⟩
       ·have t1 : decide ((3000 : Int) < (S : Int) + (wg : Int)) = false := decide_eq_false (by omega)
        have HF2 : Hid (heavyG (S + wg) (k + 1) (t.drop (k + 1)) = heavyG 0 0 t ∧ w.grownBy w5 none) := by
         refine ⟨?_, G5⟩
         have := H1.out.1
         rw [HN.out, if_neg hgt] at this
         exact this
        have hle : S + wg ≤ 3000 := by omega
        clear hgt HN H1 G5
        go_wp2
        go_roundw
        case rel => exact ⟨k + 1, S + wg, by omega, hle, by simp, by go_num, HF2⟩
        case measure => simp [intOf]; omega
      ·have hl' : ¬ (k : Int) < (t.length : Int) := by omega
       have HF2 : Hid (E = .tuple #[.int .i64 0, .int .i64 0]) := by
        show E = _
        have := H1.out.1
        rw [List.drop_eq_nil_of_le (by omega), heavyG] at this
        rw [← HE.out, checkR, HF.out, ← this]
        rfl
       have G5 := H1.out.2
       clear H1
       go_wp2
       go_ret2
       exact ⟨by rw [HF2.out]; rfl, G5⟩
  ·have e1 : ((st.length : Int) != 1) = true := by rw [bne_iff_ne]; omega
   have HF : Hid (E = .tuple #[.int .i64 (t.length : Int), .int .i64 120]) := by
    show E = _
    rw [← HE.out, checkR, HCK.out, if_pos h1]
   clear h1 HCK hwk O CL hlen
   go_wp2
   go_ret2
   exact ⟨by rw [HF.out]; rfl, HG.out⟩
def OverOk (full : Bool) (x : Ng) : Prop := ∀ (ps : List Tx) (ao : Option Addr) (cap : Nat) (w : World), CV w ao (flatX ps) → arG x.kind = some ps.length → ps ≠ [] → formG x = true → rangeE x = 0 → (∀ p ∈ ps, p.s.length ≤ 1099511627000 ∧ p.deep ≤ 1099511627000) →
  Calls Tryz.prog 23 #[.agg x.cells.toArray, .slice ao ps.length cap, .bool full] w fun e w' => e = .returned (.agg (overX x ps full).cells.toArray) ∧ w.grownBy w' none
theorem over13_any (x : Ng) (ps : List Tx) (ao : Option Addr) (cap : Nat) (full : Bool) (w : World) (C : CV w ao (flatX ps)) (ha : arG x.kind = some ps.length) (h0 : ps ≠ []) (hf : formG x = true) (hr : rangeE x = 0) (hb : ∀ p ∈ ps, p.s.length ≤ 1099511627000 ∧ p.deep ≤ 1099511627000) :
  Calls Tryz.prog 23 #[.agg x.cells.toArray, .slice ao ps.length cap, .bool full] w fun e w' => e = .returned (.agg (overX x ps full).cells.toArray) ∧ w.grownBy w' none := by
 obtain ⟨-, -, ho1, ho2, -, -, -, hz, h6, h4⟩ := form_node hf hr
 match ps, h0, ha, C, hb with
 | [p], _, ha, C, hb =>
  have hp := hb p (by simp)
  rcases arG_cases ha with ⟨-, h⟩ | ⟨h, -⟩ | ⟨h, -⟩
  ·rcases h with h | h | h
   ·exact over_load x p ao cap full w C h ⟨ho1, ho2⟩ (hz h) (by omega) (by omega)
   ·exact over_minus x p ao cap full w C h hp.1 hp.2
   ·exact over_not x p ao cap full w C h hp.1 hp.2
  ·cases h
  ·cases h
 | [p, r], _, ha, C, hb =>
  have hp := hb p (by simp)
  have hq := hb r (by simp)
  have hk : x.kind = 7 ∨ x.kind = 8 ∨ (x.kind = 6 ∧ 1 ≤ x.op ∧ x.op ≤ 6) ∨ (x.kind = 4 ∧ 1 ≤ x.op ∧ x.op ≤ 10) := by
   rcases arG_cases ha with ⟨h, -⟩ | ⟨-, h⟩ | ⟨h, -⟩
   ·cases h
   ·rcases h with h | h | h | h
    ·exact .inr (.inr (.inr ⟨h, h4 h⟩))
    ·exact .inr (.inr (.inl ⟨h, h6 h⟩))
    ·exact .inl h
    ·exact .inr (.inl h)
   ·cases h
  cases full with
  | false => exact over_two_f x p r ao cap w C hk hp.1 hp.2 hq.1 hq.2
  | true => exact over_two_t x p r ao cap w C hk hp.1 hp.2 hq.1 hq.2
 | p :: q :: r :: s, _, ha, _, _ =>
  have := arG_le ha
  simp only [List.length_cons] at this
  omega
theorem filter12_of (ao : Option Addr) (cap : Nat) (t : List Ng) (HNODE : ∀ x ∈ t, NodeOk x) (w : World) (C : CV w ao (flatG t)) (hm : t.length * 72 ≤ 140737488355328) (hn : ∀ x ∈ t, x.n ≤ 4294967295) :
  Calls Tryz.prog 21 #[.slice ao t.length cap] w fun e w' => e = .returned (.bool ((checkG t).2 == 0)) ∧ w.grownBy w' none := by
 have CK := trefcheck_of ao cap t HNODE w C hm hn
 clear HNODE
 obtain ⟨p, e, hpe⟩ : ∃ (p : Nat) (e : Int), checkG t = (p, e) := ⟨_, _, rfl⟩
 rw [checkR, hpe] at CK
 rw [hpe]
 clear hpe C
 go_enter Tryz.func21, Tryz.ntmps21
 go_wp2_with fail
 refine CK.mono ?_
 rintro e1 w1 ⟨rfl, K1⟩
 go_wp2
 go_ret
 exact ⟨rfl, K1⟩
theorem filter12_any (ao : Option Addr) (cap : Nat) (t : List Ng) (w : World) (C : CV w ao (flatG t)) (hm : t.length * 72 ≤ 140737488355328) (hn : ∀ x ∈ t, x.n ≤ 4294967295) :
  Calls Tryz.prog 21 #[.slice ao t.length cap] w fun e w' => e = .returned (.bool ((checkG t).2 == 0)) ∧ w.grownBy w' none := filter12_of ao cap t (fun x _ => node12_any x) w C hm hn
abbrev XOwns (w : World) (base : Nat) (v : Value) (xs : List Tx) : Prop := w.ownsRow base 47 3 v xs.length (flatX xs)
theorem info_text : (Tryz.prog.info? 47).map (fun i => (i.zero, i.size, i.bytes)) = some (some (.agg #[.string ⟨#[]⟩, .int .i64 0, .int .i64 0]), 3, 32) := by kernel_rfl
theorem lit_text (p : Tx) (W : World) : (Instr.buildSlice 45 1 #[(0, .agg p.cells.toArray)]).run Tryz.prog W = .ok (.slice (some ⟨W.heap.size, 0, none⟩) 1 1) (W.alloc (.cells p.cells.toArray 47)) := by kernel_rfl
theorem flatX_drop : ∀ (xs : List Tx) (n : Nat), (flatX xs).drop (n * 3) = flatX (xs.drop n)
 | [], n => by simp [flatX]
 | x :: xs, 0 => by simp
 | x :: xs, n + 1 => by
  rw [flatX_cons, List.drop_succ_cons, show (n + 1) * 3 = 3 + n * 3 by omega, ← List.drop_drop, List.drop_left' (Tx.cells_len x), flatX_drop xs n]
theorem flatX_take : ∀ (xs : List Tx) (n : Nat), (flatX xs).take (n * 3) = flatX (xs.take n)
 | [], n => by simp [flatX]
 | x :: xs, 0 => by simp [flatX]
 | x :: xs, n + 1 => by
  rw [flatX_cons, List.take_succ_cons, flatX_cons, show (n + 1) * 3 = x.cells.length + n * 3 by rw [Tx.cells_len]; omega, List.take_append, List.take_of_length_le (by omega), Nat.add_sub_cancel_left, flatX_take xs n]
theorem cv_dropX {w : World} {g : Nat} {st : List Tx} (h : CV w (some ⟨g, 0, none⟩) (flatX st)) (f : Nat) (ao : Option Addr) (ha : ao = some ⟨g, f * 3, none⟩ ∨ (st.length ≤ f ∧ ao ≠ none)) : CV w ao (flatX (st.drop f)) := by
 rcases ha with rfl | ⟨h1, h2⟩
 ·refine ⟨fun e => (by cases e), fun ad had i hi => ?_⟩
  cases had
  have hl := flatX_len st
  have hl2 := flatX_len (st.drop f)
  rw [List.length_drop] at hl2
  have := h.2 _ rfl (f * 3 + i) (by omega)
  rw [Addr.add_lit, Nat.zero_add] at this
  rw [Addr.add_lit, this]
  congr 1
  have e := flatX_drop st f
  simp only [← e, List.getElem_drop]
 ·rw [List.drop_eq_nil_of_le h1]
  exact ⟨fun e => absurd e h2, fun ad had i hi => by simp [flatX] at hi⟩
structure Fo (full : Bool) (t : List Ng) (k : Nat) (Fs : List Tr) : Prop where
 wf : ∀ T ∈ Fs, T.Wf
 flat : Fs.flatMap Tr.flat = t.take k
theorem flat_left : ∀ (Fs : List Tr), (∀ T ∈ Fs, T.Wf) → leftG 0 (Fs.flatMap Tr.flat) = some Fs.length := fun Fs h => by
 have := left_flat (Fs.map Tr.flat) (fun q hq => by
  obtain ⟨T, hT, rfl⟩ := List.mem_map.1 hq
  exact Tr.flat_left (h T hT))
 rw [List.length_map] at this
 rw [← this]
 rw [List.flatMap_def]
theorem Fo.parts {full : Bool} {t : List Ng} {k : Nat} {Fs : List Tr} (h : Fo full t k Fs) (ht : leftG 0 t = some 1) (hk : k < t.length) : ∃ a, arG t[k].kind = some a ∧ a ≤ Fs.length := by
 have e : t = t.take k ++ t[k] :: t.drop (k + 1) := by rw [← List.drop_eq_getElem_cons hk, List.take_append_drop]
 have h2 := flat_left Fs h.wf
 rw [h.flat] at h2
 rw [e] at ht
 obtain ⟨m, h3, h4⟩ := left_app _ _ 0 1 ht
 rw [h2] at h3
 cases h3
 obtain ⟨a, ha, hn, -⟩ := left_cons h4
 exact ⟨a, ha, by omega⟩
def Tr.mk (x : Ng) : List Tr → Tr
 | [] => .leaf x
 | [p] => .one x p
 | p :: q :: _ => .two x p q
theorem mk_flat (x : Ng) (ps : List Tr) (h : ps.length ≤ 2) : (Tr.mk x ps).flat = ps.flatMap Tr.flat ++ [x] := by
 match ps, h with
 | [], _ => rfl
 | [p], _ => simp [Tr.mk, Tr.flat]
 | [p, q], _ => simp [Tr.mk, Tr.flat]
theorem mk_wf (x : Ng) (ps : List Tr) (ha : arG x.kind = some ps.length) (hw : ∀ T ∈ ps, T.Wf) : (Tr.mk x ps).Wf := by
 match ps, ha, hw with
 | [], ha, _ => exact ha
 | [p], ha, hw => exact ⟨ha, hw p (by simp)⟩
 | [p, q], ha, hw => exact ⟨ha, hw p (by simp), hw q (by simp)⟩
 | p :: q :: r :: s, ha, _ =>
  have := arG_le ha
  simp only [List.length_cons] at this
  omega
theorem mk_tx (full : Bool) (x : Ng) (ps : List Tr) (ha : arG x.kind = some ps.length) (h0 : ps ≠ []) : (Tr.mk x ps).tx full = overX x (ps.map (Tr.tx full)) full := by
 match ps, ha, h0 with
 | [p], ha, _ => exact tx_one full ha
 | [p, q], ha, _ => exact tx_two full ha
 | p :: q :: r :: s, ha, _ =>
  have := arG_le ha
  simp only [List.length_cons] at this
  omega
theorem Fo.next {full : Bool} {t : List Ng} {k : Nat} {Fs : List Tr} (h : Fo full t k Fs) (hk : k < t.length) {a : Nat} (ha : arG t[k].kind = some a) (hl : a ≤ Fs.length) : Fo full t (k + 1) (Fs.take (Fs.length - a) ++ [Tr.mk t[k] (Fs.drop (Fs.length - a))]) := by
 have hdl : (Fs.drop (Fs.length - a)).length = a := by rw [List.length_drop]; omega
 refine ⟨fun T hT => ?_, ?_⟩
 ·rcases List.mem_append.1 hT with hT | hT
  ·exact h.wf T (List.mem_of_mem_take hT)
  ·rw [List.mem_singleton.1 hT]
   exact mk_wf _ _ (by rw [hdl]; exact ha) (fun U hU => h.wf U (List.mem_of_mem_drop hU))
 ·rw [List.flatMap_append, List.flatMap_cons, List.flatMap_nil, List.append_nil, mk_flat _ _ (by rw [hdl]; exact arG_le ha), ← List.append_assoc, ← List.flatMap_append, List.take_append_drop, h.flat, List.take_succ_eq_append_getElem hk]
theorem Fo.done {full : Bool} {t : List Ng} {Fs : List Tr} (h : Fo full t t.length Fs) {T : Tr} (hT : T.Wf) (hf : T.flat = t) : Fs = [T] := by
 have h2 := flat_left Fs h.wf
 have h3 := h.flat
 rw [List.take_length] at h3
 rw [h3, ← hf, Tr.flat_left hT] at h2
 have hl : Fs.length = 1 := (Option.some.inj h2).symm
 match Fs, hl, h, h3 with
 | [U], _, h, h3 =>
  have hU := h.wf U (by simp)
  have e : U.flat = t := by simpa using h3
  rw [Tr.flat_inj hU hT (e.trans hf.symm)]

end Go.Proofs.YtklipelnjgpnjaaGreatDoor
