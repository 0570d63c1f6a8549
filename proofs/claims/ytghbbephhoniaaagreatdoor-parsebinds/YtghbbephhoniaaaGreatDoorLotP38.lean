import Derived.Test.YtghbbephhoniaaaGreatDoorAb
import Derived.Test.YtghbbephhoniaaaGreatDoorLotP37
import Derived.Test.YtghbbephhoniaaaGreatDoorLotP6
import Derived.Deep.RegionHeld3
import Derived.Maps.AppendAt
import Derived.Deep.RegionLaw
namespace Go.Proofs.YtghbbephhoniaaaGreatDoor
open Go.RowKit
set_option maxRecDepth 100000
theorem retRow1 {P : Program} {fn : Func} {p : Tmp} {ty : TypeId} (h : fn.results = #[.cell p ty]) (tmps : Array Value) (w : World) (g : Nat) (cs : Array Value) (d : TypeDesc) (hp : tmps.getD p undef = .pointer (some ⟨g, 0, none⟩)) (A : VAt w g ty cs)
  (hu : P.underlying ty = some d) (hd : (match d with | .struct _ | .array _ _ => true | _ => false) = true) (hi : (P.info? ty).map (·.size) = some cs.size) : (results fn tmps).run P w = .ok (.agg cs) w := by
 have hp' : tmps[p]?.getD undef = .pointer (some ⟨g, 0, none⟩) := by simpa using hp
 have h1 := run_loadVar_row (P := P) w g ty ty cs (0, 0) _ A hu hd hi
 simp [results, h, hp', asAddr, h1]
def tkC (t : Tk) : Array Value := #[.int .i64 (t.kind : Int), .int .i64 (t.pos : Int), str t.text, .int .u32 (t.num : Int)]
theorem sizeTk : (Tryz.prog.info? 63).map (·.size) = some 4 := by kernel_rfl
theorem tkC_all (t : Tk) : (tkC t).all (·.oneCell') = true := by simp [tkC, Value.oneCell']
theorem tok_put {w W : World} {R : Nat} {z0 z1 z2 z3 : Value} (hR : w.heap.size ≤ R) (A : VAt W R 63 #[z0, z1, z2, z3]) (G : w.grownBy W none) (a b d e : Value) :
  VAt ((((W.setCell ⟨R, 0, none⟩ a).setCell ⟨R, 1, none⟩ b).setCell ⟨R, 2, none⟩ d).setCell ⟨R, 3, none⟩ e) R 63 #[a, b, d, e] ∧ w.grownBy ((((W.setCell ⟨R, 0, none⟩ a).setCell ⟨R, 1, none⟩ b).setCell ⟨R, 2, none⟩ d).setCell ⟨R, 3, none⟩ e) none :=
 ⟨(((A.set 0 a).set 1 b).set 2 d).set 3 e, grown_setCell (grown_setCell (grown_setCell (grown_setCell G _ _ (.inr hR)) _ _ (.inr hR)) _ _ (.inr hR)) _ _ (.inr hR)⟩

section
variable {c : PC} {w : World} {i nest bud : Nat} {vt vp : Value} {ts : List Tk} {ns : List (Nd × Nat)}
theorem PS.reads (h : PS c w i vt vp ts nest bud ns) : ∃ b off ca, c.tv = .slice (some ⟨b, off, none⟩) c.all.length ca ∧ i < c.all.length ∧ w.cell? ⟨c.g, 0, none⟩ = some (.slice (some ⟨b, off, none⟩) c.all.length ca) ∧ w.cell? ⟨c.g, 1, none⟩ = some (.int .i64 (i : Int)) ∧
  w.cell? ⟨b, off + i * 4, none⟩ = some (.int .i64 ((hdT ts).kind : Int)) ∧ w.cell? ⟨b, off + i * 4 + 1, none⟩ = some (.int .i64 ((hdT ts).pos : Int)) ∧ w.cell? ⟨b, off + i * 4 + 2, none⟩ = some (str (hdT ts).text) ∧ w.cell? ⟨b, off + i * 4 + 3, none⟩ = some (.int .u32 ((hdT ts).num : Int)) := by
 obtain ⟨hi, ht, -⟩ := h.idx
 obtain ⟨a, ca, htv, hC, -⟩ := h.toks.items
 obtain ⟨b, off, rfl, hc⟩ := hC.toks hi
 obtain ⟨k0, k1, k2, k3⟩ := hc i hi
 rw [ht] at k0 k1 k2 k3
 have c0 : w.cell? ⟨c.g, 0, none⟩ = some c.tv := h.blk.cell 0
 rw [htv] at c0
 exact ⟨b, off, ca, htv, hi, c0, h.blk.cell 1, k0, k1, k2, k3⟩
set_option maxHeartbeats 1000000 in
theorem rnext_any (h : PS c w i vt vp ts nest bud ns) :
  Calls Tryz.prog 27 #[.pointer (some ⟨c.g, 0, none⟩)] w fun e w' => e = .returned (.agg (tkC (hdT ts))) ∧ w.grownBy w' none := by
 have hl := h.len
 have G := World.grownBy_alloc w (.cells #[.int .i64 0, .int .i64 0, .string ⟨#[]⟩, .int .u32 0] 63) none
 have RA := VAt.alloc w 63 #[.int .i64 0, .int .i64 0, .string ⟨#[]⟩, .int .u32 0]
 obtain ⟨b, off, ca, -, hi, c0, c1, k0, k1, k2, k3⟩ := (h.keep G).reads
 clear h
 unfold tkC
 generalize hdT ts = t at *
 obtain ⟨tk, tp, tx, tn⟩ := t
 simp only at *
 generalize c.g = g at *
 generalize c.all.length = n at *
 have hlt : (i : Int) < (n : Int) := by omega
 go_enter Tryz.func27, Tryz.ntmps27
 go_upto_region 1 with fail
 have HR : Hid (w.heap.size ≤ w.heap.size) := Nat.le_refl _
 generalize w.alloc (.cells #[.int .i64 0, .int .i64 0, .string ⟨#[]⟩, .int .u32 0] 63) = W at *
 obtain ⟨R, hR⟩ : ∃ R, w.heap.size = R := ⟨_, rfl⟩
 rw [hR] at RA
 have r0 : W.cell? ⟨R, 0, none⟩ = some (.int .i64 0) := RA.cell 0
 have r1 : W.cell? ⟨R, 1, none⟩ = some (.int .i64 0) := RA.cell 1
 have r2 : W.cell? ⟨R, 2, none⟩ = some (.string ⟨#[]⟩) := RA.cell 2
 have r3 : W.cell? ⟨R, 3, none⟩ = some (.int .u32 0) := RA.cell 3
 have f0 := RA.free 0
 have f1 := RA.free 1
 have f2 := RA.free 2
 have f3 := RA.free 3
 rw [hR]
 have HR2 : Hid (w.heap.size ≤ R) := Nat.le_of_eq hR
 have HRA : Hid (VAt W R 63 #[.int .i64 0, .int .i64 0, .string ⟨#[]⟩, .int .u32 0]) := RA
 have HG : Hid (w.grownBy W none) := G
 clear hR HR RA G
 go_region
 go_wp2
 obtain ⟨A, K⟩ := tok_put HR2.out HRA.out HG.out (.int .i64 (tk : Int)) (.int .i64 (tp : Int)) (str tx) (.int .u32 (tn : Int))
 refine bodyPost_ret (retRow1 rfl _ _ R _ _ rfl A Tryz.underlying63 rfl sizeTk) rfl ?_
 exact ⟨rfl, grown_trans K (grown_drewN _ 1 none)⟩
set_option maxHeartbeats 1000000 in
theorem take_any (h : PS c w i vt vp ts nest bud ns) (hk : (hdT ts).kind ≠ 0) :
  Calls Tryz.prog 55 #[.pointer (some ⟨c.g, 0, none⟩)] w fun e w' => e = .returned (.agg (tkC (hdT ts))) ∧ Ret c w vt vp ts.tail nest (bud + 1) ns w' := by
 have hl := h.len
 have hi := h.idx.1
 have G := World.grownBy_alloc w (.cells #[.int .i64 0, .int .i64 0, .string ⟨#[]⟩, .int .u32 0] 63) none
 have RA := VAt.alloc w 63 #[.int .i64 0, .int .i64 0, .string ⟨#[]⟩, .int .u32 0]
 have H1 := h.keep G
 have HP : Hid (PS c w i vt vp ts nest bud ns) := h
 go_enter Tryz.func55, Tryz.ntmps55
 go_upto_region 1 with fail
 generalize w.alloc (.cells #[.int .i64 0, .int .i64 0, .string ⟨#[]⟩, .int .u32 0] 63) = W at *
 obtain ⟨R, hR⟩ : ∃ R, w.heap.size = R := ⟨_, rfl⟩
 rw [hR] at RA ⊢
 have HR2 : Hid (w.heap.size ≤ R) := Nat.le_of_eq hR
 clear h hR
 go_wp2_with fail
 refine (rnext_any H1).mono ?_
 rintro e w1 ⟨rfl, G1⟩
 have RA1 := RA.kept G1
 have H2 := H1.keep G1
 have G2 := grown_trans G G1
 clear H1 G1 RA G
 unfold tkC
 have HK : Hid ((hdT ts).kind ≠ 0) := hk
 clear hk
 obtain ⟨t, ht⟩ : ∃ t, hdT ts = t := ⟨_, rfl⟩
 have HT : Hid (hdT ts = t) := ht
 rw [ht]
 clear ht
 obtain ⟨tk, tp, tx, tn⟩ := t
 simp only
 have KA := World.grownBy_alloc w1 (.cells #[.int .i64 (tk : Int), .int .i64 (tp : Int), str tx, .int .u32 (tn : Int)] 63) none
 have VA := VAt.alloc w1 63 #[.int .i64 (tk : Int), .int .i64 (tp : Int), str tx, .int .u32 (tn : Int)]
 have H3 := H2.keep KA
 have RA2 := RA1.kept KA
 have G3 := grown_trans G2 KA
 have HV : Hid (w.heap.size ≤ w1.heap.size) := G2.size
 go_upto_region 2 with fail
 generalize w1.alloc (.cells #[.int .i64 (tk : Int), .int .i64 (tp : Int), .string ⟨tx.toArray⟩, .int .u32 (tn : Int)] 63) = w2 at *
 generalize w1.heap.size = V at *
 clear H2 RA1 G2 KA
 have c1 : w2.cell? ⟨c.g, 1, none⟩ = some (.int .i64 (i : Int)) := H3.blk.cell 1
 have f1 := H3.blk.free 1
 have hw : IntKind.i64.wrap ((i : Int) + 1) = ((i + 1 : Nat) : Int) := by rw [IntKind.wrap_i64]; omega
 have HQ : Hid (PS c (w2.setCell ⟨c.g, 1, none⟩ (.int .i64 ((i : Int) + 1))) (i + 1) vt vp ts.tail nest (bud + 1) ns ∧ GB w (w2.setCell ⟨c.g, 1, none⟩ (.int .i64 ((i : Int) + 1))) (foot c.g vt vp)) :=
  ⟨H3.take HK.out, (GB.non G3).trans (GB.set w2 vt vp c.g 1 _) (fun _ _ h => h)⟩
 have hgV : V ≠ c.g := fun e => by have := HP.out.blk.lt; have := HV.out; omega
 have hgR : R ≠ c.g := fun e => by have := HP.out.blk.lt; have := HR2.out; omega
 have VA3 := VA.grown (grown_set w2 c.g 1 (.int .i64 ((i : Int) + 1))) (fun e => hgV (Option.some.inj e).symm)
 have RA3 := RA2.grown (grown_set w2 c.g 1 (.int .i64 ((i : Int) + 1))) (fun e => hgR (Option.some.inj e).symm)
 clear VA RA2 H3 G3
 go_upto_region 3 with fail
 generalize w2.setCell ⟨c.g, 1, none⟩ (.int .i64 ((i : Int) + 1)) = w3 at *
 go_wp2_with (first
  | refine wpList_load_row rfl 63 (.tmp 3) rfl V rfl 63 _ (0, 0) _ VA3 Tryz.underlying63 rfl sizeTk ?_
  | refine wpList_store_row rfl 63 (.tmp 2) (.tmp 13) rfl R (tkC ⟨tk, tp, tx, tn⟩) rfl rfl 63 _ RA3 sizeTk rfl (tkC_all _) ?_)
 refine bodyPost_ret (retRow1 rfl _ _ R _ _ rfl (RA3.setRow _) Tryz.underlying63 rfl sizeTk) rfl ?_
 exact ⟨by rw [HT.out], Ret.fin HP.out HQ.out.2 (fun _ _ h => h) HQ.out.1 (vgrown_setRow (World.grownBy.refl w3 (some R)) R _ (.inl rfl)) HR2.out (HP.out.not_foot HR2.out)⟩
theorem fld_tok (k p : Int) (x : Value) (n : Int) (W : World) : (Instr.field 63 (.agg #[.int .i64 k, .int .i64 p, x, .int .u32 n]) 0).run Tryz.prog W = .ok (.int .i64 k) W ∧ (Instr.field 63 (.agg #[.int .i64 k, .int .i64 p, x, .int .u32 n]) 1).run Tryz.prog W = .ok (.int .i64 p) W ∧
  (Instr.field 63 (.agg #[.int .i64 k, .int .i64 p, x, .int .u32 n]) 2).run Tryz.prog W = .ok x W ∧ (Instr.field 63 (.agg #[.int .i64 k, .int .i64 p, x, .int .u32 n]) 3).run Tryz.prog W = .ok (.int .u32 n) W := ⟨by kernel_rfl, by kernel_rfl, by kernel_rfl, by kernel_rfl⟩
theorem giveUp_any (h : PS c w i vt vp ts nest bud ns) (e : Int) :
  Calls Tryz.prog 43 #[.pointer (some ⟨c.g, 0, none⟩), .int .i64 e] w fun x w' => x = .panicked (PanS ((hdT ts).pos, e)) ∧ w.grownBy w' none := by
 have CN := rnext_any h
 unfold tkC at CN
 have HF := fun k p x n W => (fld_tok k p x n W).2.1
 unfold PanS
 generalize hdT ts = t at *
 obtain ⟨tk, tp, tx, tn⟩ := t
 simp only at *
 clear h
 go_enter Tryz.func43, Tryz.ntmps43
 go_wp2_with fail
 refine CN.mono ?_
 rintro x w1 ⟨rfl, G⟩
 clear CN
 go_wp2
 exact ⟨rfl, rfl, G⟩
def stuckE (ts : List Tk) : Er := ((hdT ts).pos, if (hdT ts).kind = 0 then 110 else 111)
theorem fail_stuck {α : Type} (ts : List Tk) : (failV ts 111 : Except Er α) = .error (stuckE ts) := rfl
theorem stuck_any (h : PS c w i vt vp ts nest bud ns) :
  Calls Tryz.prog 28 #[.pointer (some ⟨c.g, 0, none⟩)] w fun x w' => x = .panicked (PanS (stuckE ts)) ∧ w.grownBy w' none := by
 have CN := rnext_any h
 unfold stuckE
 have HG : Hid (∀ W, w.grownBy W none → ∀ e, Calls Tryz.prog 43 #[.pointer (some ⟨c.g, 0, none⟩), .int .i64 e] W fun x w' => x = .panicked (PanS ((hdT ts).pos, e)) ∧ W.grownBy w' none) := fun W G e => giveUp_any (h.keep G) e
 unfold tkC at CN
 have HF := fun k p x n W => (fld_tok k p x n W).1
 generalize hdT ts = t at *
 obtain ⟨tk, tp, tx, tn⟩ := t
 simp only at *
 clear h
 by_cases hk : tk = 0
 ·have hk' : ((tk : Int) == 0) = true := by rw [hk]; rfl
  rw [if_pos hk]
  clear hk
  go_enter Tryz.func28, Tryz.ntmps28
  go_wp2_with fail
  refine CN.mono ?_
  rintro x w1 ⟨rfl, G⟩
  clear CN
  go_wp2_with fail
  refine (HG.out w1 G _).mono ?_
  rintro x w2 ⟨rfl, G2⟩
  go_wp2
  exact ⟨rfl, rfl, grown_trans G G2⟩
 ·have hk' : ((tk : Int) == 0) = false := by rw [beq_eq_false_iff_ne]; omega
  rw [if_neg hk]
  clear hk
  go_enter Tryz.func28, Tryz.ntmps28
  go_wp2_with fail
  refine CN.mono ?_
  rintro x w1 ⟨rfl, G⟩
  clear CN
  go_wp2_with fail
  refine (HG.out w1 G _).mono ?_
  rintro x w2 ⟨rfl, G2⟩
  go_wp2
  exact ⟨rfl, rfl, grown_trans G G2⟩

end
set_option maxHeartbeats 1000000 in
theorem index_any (a : Option Addr) (ca : Nat) (xs : List (List UInt8)) (x : List UInt8) (w : World) (ha : CV w a (xs.map str)) (hm : xs.length ≤ 1000) :
  Calls Tryz.prog 81 #[.slice a xs.length ca, str x] w fun e w' => ∃ z : Int, e = .returned (.int .i64 z) ∧ (decide ((0 : Int) ≤ z) = decide (x ∈ xs)) ∧ ∃ n, w' = w.drewN n := by
 have HA : Hid (CV w a (xs.map str)) := ha
 clear ha
 go_enter Tryz.func81, Tryz.ntmps81
 go_wp2
 go_loopw [8] (fun i wr => ∃ k : Nat, k ≤ xs.length ∧ i = .int .i64 k ∧ Hid (∀ j, j < k → ∀ y, xs[j]? = some y → y ≠ x) ∧ ∃ n, wr = w.drewN n) (fun i _ => xs.length - (intOf i).toNat)
 case atStart => exact ⟨0, Nat.zero_le _, rfl, fun j hj => by omega, 0, rfl⟩
 case round =>
  obtain ⟨k, hk, rfl, HI, n, rfl⟩ := hrel
  by_cases hlt : k < xs.length
  ·obtain ⟨b, o, rfl, hc⟩ := HA.out.addr (k := k) (by simpa using hlt)
   have hc1 := hc k (by simpa using hlt)
   rw [List.getElem_map] at hc1
   have hl : (k : Int) < (xs.length : Int) := by omega
   clear hc
   by_cases he : x = xs[k]
   ·have HM : Hid (x ∈ xs) := by show x ∈ xs; rw [he]; exact List.getElem_mem hlt
    have hE : (x == xs[k]) = true := by simpa using he
    clear he
    generalize xs[k] = y at *
    go_wp2
    go_ret
    exact ⟨_, rfl, by rw [decide_eq_true HM.out]; simp, _, rfl⟩
   ·have HN : Hid (∀ j, j < k + 1 → ∀ y, xs[j]? = some y → y ≠ x) := fun j hj y hy => by
     by_cases e : j = k
     ·subst e
      rw [List.getElem?_eq_getElem hlt] at hy
      cases hy
      exact fun e => he e.symm
     ·exact HI.out j (by omega) y hy
    have hE : (x == xs[k]) = false := by simpa using he
    clear he HI
    generalize xs[k] = y at *
    go_wp2
    go_roundw
    case rel => exact ⟨k + 1, by omega, by go_num, HN, _, by rfl⟩
    case measure => simp [intOf]; omega
  ·obtain rfl : k = xs.length := by omega
   have HM : Hid (¬ x ∈ xs) := fun e => by
    obtain ⟨j, hj, e⟩ := List.getElem_of_mem e
    exact HI.out j hj _ (List.getElem?_eq_getElem hj) e
   clear HI
   go_wp2
   go_ret
   exact ⟨_, rfl, by rw [decide_eq_false HM.out]; simp, n, rfl⟩
set_option maxHeartbeats 1000000 in
theorem contains_any (a : Option Addr) (ca : Nat) (xs : List (List UInt8)) (x : List UInt8) (w : World) (ha : CV w a (xs.map str)) (hm : xs.length ≤ 1000) :
  Calls Tryz.prog 65 #[.slice a xs.length ca, str x] w fun e w' => e = .returned (.bool (decide (x ∈ xs))) ∧ ∃ n, w' = w.drewN n := by
 have C := index_any a ca xs x w ha hm
 generalize decide (x ∈ xs) = B at *
 clear ha
 go_enter Tryz.func65, Tryz.ntmps65
 go_wp2_with fail
 refine C.mono ?_
 rintro e w1 ⟨z, rfl, hz, n, rfl⟩
 clear C
 go_wp2
 go_ret
 exact ⟨rfl, n, rfl⟩

section
variable {c : PC} {w : World} {i nest bud : Nat} {vt vp : Value} {ts : List Tk} {ns : List (Nd × Nat)}
set_option maxHeartbeats 1000000 in
theorem stands_any (h : PS c w i vt vp ts nest bud ns) (a : Option Addr) (ca : Nat) (xs : List (List UInt8)) (ha : CV w a (xs.map str)) (hm : xs.length ≤ 1000) :
  Calls Tryz.prog 54 #[.pointer (some ⟨c.g, 0, none⟩), .slice a xs.length ca] w fun e w' => e = .returned (.bool (decide ((hdT ts).text ∈ xs))) ∧ w.grownBy w' none := by
 have CN := rnext_any h
 have HC : Hid (∀ W, w.grownBy W none → Calls Tryz.prog 65 #[.slice a xs.length ca, str (hdT ts).text] W fun e w' => e = .returned (.bool (decide ((hdT ts).text ∈ xs))) ∧ ∃ n, w' = W.drewN n) := fun W G => contains_any a ca xs _ W (ha.keptNone G) hm
 unfold tkC at CN
 have HF := fun k p x n W => (fld_tok k p x n W).2.2.1
 generalize hdT ts = t at *
 obtain ⟨tk, tp, tx, tn⟩ := t
 simp only at *
 generalize decide (tx ∈ xs) = B at *
 clear h ha
 go_enter Tryz.func54, Tryz.ntmps54
 go_wp2_with fail
 refine CN.mono ?_
 rintro x w1 ⟨rfl, G⟩
 clear CN
 go_wp2_with fail
 refine (HC.out w1 G).mono ?_
 rintro x w2 ⟨rfl, n, rfl⟩
 clear HC
 go_wp2
 go_ret
 exact ⟨rfl, grown_trans G (grown_drewN _ _ _)⟩
def SkipP (c : PC) (w : World) (vt vp : Value) (ts : List Tk) (nest bud : Nat) (ns : List (Nd × Nat)) : Bool → World → Prop
 | true, w' => Ret c w vt vp ts.tail nest (bud + 1) ns w'
 | false, w' => w.grownBy w' none
set_option maxHeartbeats 1000000 in
theorem skip_any (h : PS c w i vt vp ts nest bud ns) (x : List UInt8) (hx : Asked x) :
  Calls Tryz.prog 118 #[.pointer (some ⟨c.g, 0, none⟩), str x] w fun e w' => e = .returned (.bool (isB ts x)) ∧ SkipP c w vt vp ts nest bud ns (isB ts x) w' := by
 have hb := asked_is h.good.hd hx
 have G0 := World.grownBy_alloc w (.cells #[str x] 9) none
 have CS := stands_any (h.keep G0) (some ⟨w.heap.size, 0, none⟩) 1 [x] (cv_lit w _ _) (by simp)
 have hm : decide ((hdT ts).text ∈ [x]) = isB ts x := by rw [hb]; simp
 rw [hm] at CS
 have HT : Hid (∀ W, w.grownBy W none → isB ts x = true → Calls Tryz.prog 55 #[.pointer (some ⟨c.g, 0, none⟩)] W fun e w' => e = .returned (.agg (tkC (hdT ts))) ∧ Ret c w vt vp ts.tail nest (bud + 1) ns w') := fun W G hb' =>
  (take_any (h.keep G) (isB_k0 hb')).mono fun e w' ⟨he, hR⟩ => ⟨he, Ret.of (GB.non G) (fun _ _ k => k) hR⟩
 generalize (⟨x.toArray⟩ : ByteArray) = X at *
 clear h hm hb
 generalize isB ts x = B at *
 simp only [List.length_singleton] at CS
 cases B with
 | true =>
  go_enter Tryz.func118, Tryz.ntmps118
  go_wp2_with fail
  refine CS.mono ?_
  rintro e w1 ⟨rfl, G⟩
  clear CS
  go_wp2_with fail
  refine (HT.out w1 (grown_trans G0 G) (by first | trivial | rfl)).mono ?_
  rintro e w2 ⟨rfl, R⟩
  clear HT G G0
  go_wp2
  go_ret
  exact ⟨rfl, R⟩
 | false =>
  go_enter Tryz.func118, Tryz.ntmps118
  go_wp2_with fail
  refine CS.mono ?_
  rintro e w1 ⟨rfl, G⟩
  clear CS
  go_wp2
  go_ret
  exact ⟨rfl, grown_trans G0 G⟩
def MustP (c : PC) (w : World) (vt vp : Value) (nest bud : Nat) (ns : List (Nd × Nat)) (r : Except Er (List Tk)) (e : Ending) (w' : World) : Prop := match r with
 | .ok ts' => e = .returned (.tuple #[]) ∧ Ret c w vt vp ts' nest bud ns w'
 | .error er => e = .panicked (PanS er) ∧ GB w w' (foot c.g vt vp)
set_option maxHeartbeats 1000000 in
theorem must_any (h : PS c w i vt vp ts nest bud ns) (x : List UInt8) (hx : Asked x) :
  Calls Tryz.prog 114 #[.pointer (some ⟨c.g, 0, none⟩), str x] w (MustP c w vt vp nest (bud + 1) ns (mustV x ts)) := by
 have CS := skip_any h x hx
 have HS : Hid (∀ W, w.grownBy W none → Calls Tryz.prog 28 #[.pointer (some ⟨c.g, 0, none⟩)] W fun e w' => e = .panicked (PanS (stuckE ts)) ∧ W.grownBy w' none) := fun W G => stuck_any (h.keep G)
 unfold mustV
 generalize (⟨x.toArray⟩ : ByteArray) = X at *
 cases hb : isB ts x with
 | true =>
  rw [if_pos rfl]
  rw [hb] at CS
  clear h HS hb
  go_enter Tryz.func114, Tryz.ntmps114
  go_wp2_with fail
  refine CS.mono ?_
  rintro e w1 ⟨rfl, R⟩
  clear CS
  go_wp2
  go_end0
  exact ⟨rfl, R⟩
 | false =>
  rw [if_neg (by simp), fail_stuck]
  rw [hb] at CS
  clear h hb
  go_enter Tryz.func114, Tryz.ntmps114
  go_wp2_with fail
  refine CS.mono ?_
  rintro e w1 ⟨rfl, hG⟩
  have G : w.grownBy w1 none := hG
  clear CS hG
  go_wp2_with fail
  refine (HS.out w1 G).mono ?_
  rintro e w2 ⟨rfl, G2⟩
  clear HS
  go_wp2
  exact ⟨rfl, rfl, GB.non (grown_trans G G2)⟩
set_option maxHeartbeats 1000000 in
theorem rnumber_any (h : PS c w i vt vp ts nest bud ns) :
  Calls Tryz.prog 112 #[.pointer (some ⟨c.g, 0, none⟩)] w (TellP c w vt vp nest (bud + 1) ns (fun n : Nat => .int .u32 (n : Int)) (numT ts)) := by
 have CN := rnext_any h
 have HS : Hid (∀ W, w.grownBy W none → Calls Tryz.prog 28 #[.pointer (some ⟨c.g, 0, none⟩)] W fun e w' => e = .panicked (PanS (stuckE ts)) ∧ W.grownBy w' none) := fun W G => stuck_any (h.keep G)
 have HT : Hid (∀ W, w.grownBy W none → (hdT ts).kind ≠ 0 → Calls Tryz.prog 55 #[.pointer (some ⟨c.g, 0, none⟩)] W fun e w' => e = .returned (.agg (tkC (hdT ts))) ∧ Ret c w vt vp ts.tail nest (bud + 1) ns w') := fun W G hk =>
  (take_any (h.keep G) hk).mono fun e w' ⟨he, hR⟩ => ⟨he, Ret.of (GB.non G) (fun _ _ k => k) hR⟩
 unfold numT
 rw [fail_stuck]
 generalize stuckE ts = er at *
 unfold tkC at CN HT
 have HF := fun k p x n W => (fld_tok k p x n W).1
 have HF3 := fun k p x n W => (fld_tok k p x n W).2.2.2
 generalize hdT ts = t at *
 obtain ⟨tk, tp, tx, tn⟩ := t
 simp only at *
 clear h
 by_cases hk : tk = 1
 ·rw [if_pos hk]
  have hk' : ((tk : Int) != 1) = false := by rw [hk]; rfl
  have hk0 : tk ≠ 0 := by omega
  clear hk HS
  go_enter Tryz.func112, Tryz.ntmps112
  go_wp2_with fail
  refine CN.mono ?_
  rintro e w1 ⟨rfl, G⟩
  clear CN
  go_wp2_with fail
  refine (HT.out w1 G hk0).mono ?_
  rintro e w2 ⟨rfl, R⟩
  clear HT G
  go_wp2
  go_ret
  exact ⟨rfl, R⟩
 ·rw [if_neg hk]
  have hk' : ((tk : Int) != 1) = true := by rw [bne_iff_ne]; omega
  clear hk HT
  go_enter Tryz.func112, Tryz.ntmps112
  go_wp2_with fail
  refine CN.mono ?_
  rintro e w1 ⟨rfl, G⟩
  clear CN
  go_wp2_with fail
  refine (HS.out w1 G).mono ?_
  rintro e w2 ⟨rfl, G2⟩
  clear HS
  go_wp2
  exact ⟨rfl, rfl, GB.non (grown_trans G G2)⟩
set_option maxHeartbeats 1000000 in
theorem end_any (h : PS c w i vt vp ts nest bud ns) :
  Calls Tryz.prog 15 #[.pointer (some ⟨c.g, 0, none⟩)] w fun e w' => w.grownBy w' none ∧ (((hdT ts).kind = 0 ∧ e = .returned (.tuple #[])) ∨ ((hdT ts).kind ≠ 0 ∧ e = .panicked (PanS (stuckE ts)))) := by
 have CN := rnext_any h
 have HS : Hid (∀ W, w.grownBy W none → Calls Tryz.prog 28 #[.pointer (some ⟨c.g, 0, none⟩)] W fun e w' => e = .panicked (PanS (stuckE ts)) ∧ W.grownBy w' none) := fun W G => stuck_any (h.keep G)
 generalize stuckE ts = er at *
 unfold tkC at CN
 have HF := fun k p x n W => (fld_tok k p x n W).1
 generalize hdT ts = t at *
 obtain ⟨tk, tp, tx, tn⟩ := t
 simp only at *
 clear h
 by_cases hk : tk = 0
 ·have hk' : ((tk : Int) != 0) = false := by rw [hk]; rfl
  have HK : Hid (tk = 0) := hk
  clear hk HS
  go_enter Tryz.func15, Tryz.ntmps15
  go_wp2_with fail
  refine CN.mono ?_
  rintro e w1 ⟨rfl, G⟩
  clear CN
  go_wp2
  go_end0
  exact ⟨G, .inl ⟨HK.out, rfl⟩⟩
 ·have hk' : ((tk : Int) != 0) = true := by rw [bne_iff_ne]; omega
  have HK : Hid (tk ≠ 0) := hk
  clear hk
  go_enter Tryz.func15, Tryz.ntmps15
  go_wp2_with fail
  refine CN.mono ?_
  rintro e w1 ⟨rfl, G⟩
  clear CN
  go_wp2_with fail
  refine (HS.out w1 G).mono ?_
  rintro e w2 ⟨rfl, G2⟩
  clear HS
  go_wp2
  exact ⟨rfl, grown_trans G G2, .inr ⟨HK.out, rfl⟩⟩

end
theorem lit_node (x : Nd) (W : World) : (Instr.buildSlice 31 1 #[(0, .agg x.cells.toArray)]).run Tryz.prog W = .ok (.slice (some ⟨W.heap.size, 0, none⟩) 1 1) (W.alloc (.cells x.cells.toArray 28)) := by kernel_rfl
theorem lit_int (z : Int) (W : World) : (Instr.buildSlice 24 1 #[(0, .int .i64 z)]).run Tryz.prog W = .ok (.slice (some ⟨W.heap.size, 0, none⟩) 1 1) (W.alloc (.cells #[.int .i64 z] 3)) := by kernel_rfl
theorem box_node (x : Nd) (W : World) : (Instr.box 28 (.agg x.cells.toArray)).run Tryz.prog W = .ok (.pointer (some ⟨W.heap.size, 0, none⟩)) (W.alloc (.cells x.cells.toArray 28)) := by kernel_rfl

section
variable {c : PC} {w : World} {i nest bud : Nat} {vt vp : Value} {ts : List Tk} {ns : List (Nd × Nat)}
theorem put_end {w5 w6 w7 : World} {v4 v7 : Value} {x : Nd} {tp : Nat} (h : PS c w i vt vp ts nest (bud + 1) ns) (HZ : HS c w5 i v4 vp nest (ns.map Prod.fst ++ [x]) (ns.map plc) ∧ GB w w5 (foot c.g vt vp) ∧ ∀ y, y < w.heap.size → foot c.g v4 vp y → foot c.g vt vp y) (K6 : w5.grownBy w6 none)
  (O : w7.ownsRow c.w0.heap.size 3 1 v7 ((ns.map plc).length + 1) ((ns.map plc).map iv ++ [.int .i64 (tp : Int)])) (K : w6.grownBy w7 vp.ownBlock) (B : v7.ownBlock = vp.ownBlock ∨ v7.ownBlock = some w6.heap.size) : Ret c w vt vp ts nest bud (ns ++ [(x, tp)]) (w7.setCell ⟨c.g, 4, none⟩ v7) := by
 obtain ⟨h1, h2, h3⟩ := (HZ.1.keep K6).put_places O K B
 have hs6 := K6.size
 have hs5 := HZ.2.1.size
 refine ⟨i, v4, v7, h.of_hs (by rw [List.map_append, List.map_append]; exact h1) (by have := h.bud_le; rw [List.length_append, List.length_singleton]; omega), ?_, ?_⟩
 ·exact HZ.2.1.trans ((GB.non K6).trans h2 (fun _ _ h => h)) (fun y hy => HZ.2.2 y hy)
 ·intro y hy hf
  exact HZ.2.2 y hy (h3 y (by omega) hf)
set_option maxHeartbeats 4000000 in
theorem put_any (h : PS c w i vt vp ts nest (bud + 1) ns) (t : Tk) (x : Nd) :
  Calls Tryz.prog 56 #[.pointer (some ⟨c.g, 0, none⟩), .agg (tkC t), .agg x.cells.toArray] w fun e w' => e = .returned (.tuple #[]) ∧ Ret c w vt vp ts nest bud (ns ++ [(x, t.pos)]) w' := by
 obtain ⟨tk, tp, tx, tn⟩ := t
 unfold tkC
 simp only
 have HBX := box_node x
 obtain ⟨X, hX⟩ : ∃ X, x.cells.toArray = X := ⟨_, rfl⟩
 rw [hX] at HBX ⊢
 go_enter Tryz.func56, Tryz.ntmps56
 have VT := VAt.alloc w 63 #[.int .i64 (tk : Int), .int .i64 (tp : Int), str tx, .int .u32 (tn : Int)]
 have K1 := World.grownBy_alloc w (.cells #[.int .i64 (tk : Int), .int .i64 (tp : Int), str tx, .int .u32 (tn : Int)] 63) none
 have K2 := World.grownBy_alloc (w.alloc (.cells #[.int .i64 (tk : Int), .int .i64 (tp : Int), str tx, .int .u32 (tn : Int)] 63)) (.cells X 28) none
 have VN := VAt.alloc (w.alloc (.cells #[.int .i64 (tk : Int), .int .i64 (tp : Int), str tx, .int .u32 (tn : Int)] 63)) 28 X
 rw [show (w.alloc (.cells #[.int .i64 (tk : Int), .int .i64 (tp : Int), str tx, .int .u32 (tn : Int)] 63)).heap.size = w.heap.size + 1 by simp] at VN
 have VT2 := VT.kept K2
 have G := grown_trans K1 K2
 have H2 := h.keep G
 have HP : Hid (PS c w i vt vp ts nest (bud + 1) ns) := h
 go_upto_region 1 with fail
 generalize (w.alloc (.cells #[.int .i64 (tk : Int), .int .i64 (tp : Int), str tx, .int .u32 (tn : Int)] 63)).alloc (.cells X 28) = w2 at *
 obtain ⟨V1, hV1⟩ : ∃ V, w.heap.size = V := ⟨_, rfl⟩
 obtain ⟨V2, hV2⟩ : ∃ V, w.heap.size + 1 = V := ⟨_, rfl⟩
 rw [hV2] at VN ⊢
 rw [hV1] at VT2 ⊢
 have HV : Hid (w.heap.size ≤ V1 ∧ V1 < w2.heap.size ∧ w.heap.size < V2) := ⟨Nat.le_of_eq hV1, VT2.lt, by omega⟩
 clear hV1 hV2 VT K1 K2 h HBX
 have hXs : X.size = 24 := by rw [← hX]; rfl
 have HL : Hid (VAt w2.drew V2 28 X ∧ (Tryz.prog.info? 28).map (·.size) = some X.size) := ⟨VN, by rw [hXs]; exact size28⟩
 have LN := lit_node x
 rw [hX] at LN
 have LI := lit_int
 have HLN : Hid (∀ W : World, (Instr.buildSlice 31 1 #[(0, .agg X)]).run Tryz.prog W = .ok (.slice (some ⟨W.heap.size, 0, none⟩) 1 1) (W.alloc (.cells x.cells.toArray 28))) := fun W => by rw [hX]; exact LN W
 have HX : Hid (x.cells.toArray = X) := hX
 have HB1 : Hid (((ns.map Prod.fst).length + 1 ≤ maxLen ∧ ((ns.map Prod.fst).length + 1) * 72 ≤ 140737488355328) ∧ ((ns.map plc).length + 1 ≤ maxLen ∧ ((ns.map plc).length + 1) * 8 ≤ 140737488355328)) := by
  have := HP.out.bud_le
  simp only [List.length_map]
  unfold maxLen
  exact ⟨⟨by omega, by omega⟩, by omega, by omega⟩
 have c3 : w2.cell? ⟨c.g, 3, none⟩ = some vt := H2.blk.cell 3
 have HQ : Hid (PS c w2 i vt vp ts nest (bud + 1) ns ∧ VAt w2 V1 63 #[.int .i64 (tk : Int), .int .i64 (tp : Int), str tx, .int .u32 (tn : Int)] ∧ w.grownBy w2 none) := ⟨H2, VT2, G⟩
 obtain ⟨i0, hi, hz0, hz1, hz2⟩ := info_parts info28
 clear H2 VT2 G hX LN LI VN hXs
 refine wp_region_held_drew (S := fun W => VAt W V2 28 X) (by kernel_rfl) HL.out.1 (fun hHeld => ?_)
 refine wpT (i := 0) (v := .pointer (some ⟨c.g, 0, none⟩)) rfl (Or.inl ⟨by rfl, fun W hW => ?_⟩) hHeld ?_
 ·clear hW
  go_simp
 try simp only [Act.put, a0, a1, a3, a4, a5]
 refine wpT (i := 1) (v := .pointer (some ⟨c.g, 0, none⟩)) rfl (Or.inl ⟨by rfl, fun W hW => ?_⟩) hHeld ?_
 ·clear hW
  go_simp
 try simp only [Act.put, a0, a1, a2, a3, a4, a5]
 refine wpT (i := 2) (v := .pointer (some ⟨c.g, 0, none⟩)) rfl (Or.inl ⟨by rfl, fun W hW => ?_⟩) hHeld ?_
 ·clear hW
  go_simp
 try simp only [Act.put, a0, a1, a2, a3, a4, a5]
 refine wpT (i := 3) (v := .pointer (some ⟨c.g, 3, none⟩)) rfl (Or.inl ⟨by rfl, fun W hW => ?_⟩) hHeld ?_
 ·clear hW
  go_simp
 try simp only [Act.put, a0, a1, a2, a3, a4, a5]
 refine wpT (i := 5) (v := .agg X) rfl (yieldsIf_load_row (by rfl) _ _ rfl V2 rfl 28 X _ (fun W hW => hW) Tryz.underlying28 rfl HL.out.2) hHeld ?_
 try simp only [Act.put, a0, a1, a2, a3, a4, a5]
 refine wpR (rs := [4, 6]) (AllReadyH.cons rfl (fun K hK => ?_) (AllReadyH.cons rfl (fun K hK => ?_) AllReadyH.nil))
 ·go_simp
  refine hK.out _ _ HL.out.1 (fun hHeld => ?_)
  clear hK K
  try simp only [Act.put, a0, a1, a2, a3, a4, a5]
  refine wpR (rs := [6]) (AllReadyH.cons rfl (fun K hK => ?_) AllReadyH.nil)
  refine step_lit (by rfl) 31 1 _ (by rfl) _ (by kernel_rfl) x.cells 28 HLN.out ?_
  intro ad w3 C3 K3
  have Q3 := HQ.out.1.keep (grown_trans (grown_drewN w2 1 none) K3)
  have c3b : w3.cell? ⟨c.g, 3, none⟩ = some vt := Q3.blk.cell 3
  refine hK.out _ _ (HL.out.1.kept K3) (fun hHeld => ?_)
  clear hK K
  try simp only [Act.put, a0, a1, a2, a3, a4, a5]
  refine wpR (rs := [7]) (AllReadyH.cons rfl (fun K hK => ?_) AllReadyH.nil)
  refine step_append_own (by rfl) (.tmp 10) (.tmp 12) 31 (by rfl) 28 i0 _ 24 72 Tryz.underlying31 hi hz0 hz1 hz2 rfl (by decide) c.w0.heap.size vt (ns.map Prod.fst).length (flatN (ns.map Prod.fst)) (by rfl) Q3.tree ad 1 1 x.cells (by rfl) rfl C3 x.cells_one HB1.out.1.1 HB1.out.1.2 (Nat.le_trans HQ.out.1.grown.size K3.size) ?_
  intro v4 w4 O4 K4 B4
  have hV2v : ¬ vt.ownBlock = some V2 := fun e => by have := HQ.out.1.tree.lt V2 e; have := HP.out.tree.lt V2 e; have := HV.out; omega
  have VN4 := hHeld.grown K4 (fun e => hV2v e)
  have G4 := Q3.blk.grown K4 Q3.ne_tree
  have c3c : w4.cell? ⟨c.g, 3, none⟩ = some vt := G4.cell 3
  have f3c := G4.free 3
  obtain ⟨Z4, Z5, Z6⟩ := Q3.hs.put_tree (x := x) O4 K4 B4
  have L4 : w.grownBy w3 none := grown_trans HQ.out.2.2 (grown_trans (grown_drewN w2 1 none) K3)
  have V14 := (HQ.out.2.1.kept (grown_trans (grown_drewN w2 1 none) K3)).grown K4 (fun e => by have := HP.out.tree.lt V1 e; have := HV.out; omega)
  obtain ⟨a4, l4, k4, hv4⟩ := own_sl O4
  subst hv4
  refine hK.out _ _ VN4 (fun hHeld => ?_)
  clear hK K
  try simp only [Act.put, a0, a1, a2, a3, a4, a5]
  refine wpT (i := 8) (v := .pointer (some ⟨c.g, 0, none⟩)) rfl (Or.inl ⟨by rfl, fun W hW => ?_⟩) hHeld ?_
  ·clear hW
   go_simp
  try simp only [Act.put, a0, a1, a2, a3, a4, a5]
  refine wpT (i := 9) (v := .pointer (some ⟨c.g, 3, none⟩)) rfl (Or.inl ⟨by rfl, fun W hW => ?_⟩) hHeld ?_
  ·clear hW
   go_simp
  try simp only [Act.put, a0, a1, a2, a3, a4, a5]
  refine wpR (rs := [10]) (AllReadyH.cons rfl (fun K hK => ?_) AllReadyH.nil)
  go_simp
  refine hK.out _ _ (VN4.setOther (k := c.g) (i := 3) (.slice a4 l4 k4) (fun e => by have := HP.out.blk.lt; have := HV.out; omega)) (fun hHeld => ?_)
  refine wpAnyH_done (by kernel_rfl) ?_ _
  have V15 := V14.grown (grown_set w4 c.g 3 (.slice a4 l4 k4)) (fun e => by have e2 := Option.some.inj e; have := HP.out.blk.lt; have := HV.out; omega)
  have HZ : Hid (HS c (w4.setCell ⟨c.g, 3, none⟩ (.slice a4 l4 k4)) i (.slice a4 l4 k4) vp nest (ns.map Prod.fst ++ [x]) (ns.map plc) ∧ GB w (w4.setCell ⟨c.g, 3, none⟩ (.slice a4 l4 k4)) (foot c.g vt vp) ∧ ∀ y, y < w.heap.size → foot c.g (.slice a4 l4 k4) vp y → foot c.g vt vp y) := ⟨Z4, (GB.non L4).trans Z5 (fun _ _ h => h), fun y hy => Z6 y (Nat.lt_of_lt_of_le hy L4.size)⟩
  clear hK K hHeld O4 K4 B4 C3 K3 hV2v VN4 G4 c3c f3c Q3 c3 c3b Z4 Z5 Z6 L4 V14 hi hz0 hz1 hz2 i0 HQ HL HLN HX
  go_wp2_with fail
  generalize w4.setCell ⟨c.g, 3, none⟩ (.slice a4 l4 k4) = w5 at *
  have p1 : w5.cell? ⟨V1, 1, none⟩ = some (.int .i64 (tp : Int)) := V15.cell 1
  have p4 : w5.cell? ⟨c.g, 4, none⟩ = some vp := HZ.out.1.blk.cell 4
  obtain ⟨i0, hi, hz0, hz1, hz2⟩ := info_parts info3
  clear V15
  have K6 : w5.grownBy (w5.drew.alloc (.cells #[.int .i64 (tp : Int)] 3)) none := grown_trans (grown_drewN w5 1 none) (World.grownBy_alloc w5.drew (.cells #[.int .i64 (tp : Int)] 3) none)
  have HK6 : Hid (HS c (w5.drew.alloc (.cells #[.int .i64 (tp : Int)] 3)) i (.slice a4 l4 k4) vp nest (ns.map Prod.fst ++ [x]) (ns.map plc) ∧ CV (w5.drew.alloc (.cells #[.int .i64 (tp : Int)] 3)) (some ⟨w5.heap.size, 0, none⟩) [.int .i64 (tp : Int)] ∧ w5.grownBy (w5.drew.alloc (.cells #[.int .i64 (tp : Int)] 3)) none) := ⟨HZ.out.1.keep K6, cv_lit w5.drew _ _, K6⟩
  have p4b : (w5.alloc (.cells #[.int .i64 (tp : Int)] 3)).cell? ⟨c.g, 4, none⟩ = some vp := HK6.out.1.blk.cell 4
  clear K6
  go_region_law ((refine step_append_own rfl (.tmp 20) (.tmp 23) 24 rfl 3 i0 _ 1 8 Tryz.underlying24 hi hz0 hz1 hz2 rfl (by decide) c.w0.heap.size vp (ns.map plc).length ((ns.map plc).map iv) (by first | rfl | simp [Act.eval]) (by exact HK6.out.1.places) ⟨w5.heap.size, 0, none⟩ 1 1 [.int .i64 (tp : Int)] (by first | rfl | simp [Act.eval]) rfl (by exact HK6.out.2.1) (by simp [Value.oneCell']) HB1.out.2.1 HB1.out.2.2 (by exact HK6.out.1.grown.size) ?_; intro v7 w7 O7 K7' B7'; have K7 : (w5.drew.alloc (.cells #[.int .i64 (tp : Int)] 3)).grownBy w7 vp.ownBlock := K7'; have B7 : v7.ownBlock = vp.ownBlock ∨ v7.ownBlock = some (w5.drew.alloc (.cells #[.int .i64 (tp : Int)] 3)).heap.size := B7'; have A7 := blk_kept' HK6.out.1.blk HK6.out.1.places (by decide) K7; have p4c : w7.cell? ⟨c.g, 4, none⟩ = some vp := A7.cell 4; have p4f := A7.free 4; obtain ⟨a7, l7, k7, hv7⟩ := own_sl O7; subst hv7))
  all_goals (go_wp2; go_end0; exact ⟨rfl, put_end HP.out HZ.out HK6.out.2.2 O7 K7 B7⟩)
 ·skip
  refine step_lit (by rfl) 31 1 _ (by rfl) _ (by kernel_rfl) x.cells 28 HLN.out ?_
  intro ad w3 C3 K3
  have Q3 := HQ.out.1.keep (grown_trans (grown_drewN w2 1 none) K3)
  have c3b : w3.cell? ⟨c.g, 3, none⟩ = some vt := Q3.blk.cell 3
  refine hK.out _ _ (HL.out.1.kept K3) (fun hHeld => ?_)
  clear hK K
  try simp only [Act.put, a0, a1, a2, a3, a4, a5]
  refine wpR (rs := [4]) (AllReadyH.cons rfl (fun K hK => ?_) AllReadyH.nil)
  go_simp
  refine hK.out _ _ (HL.out.1.kept K3) (fun hHeld => ?_)
  clear hK K
  try simp only [Act.put, a0, a1, a2, a3, a4, a5]
  refine wpR (rs := [7]) (AllReadyH.cons rfl (fun K hK => ?_) AllReadyH.nil)
  refine step_append_own (by rfl) (.tmp 10) (.tmp 12) 31 (by rfl) 28 i0 _ 24 72 Tryz.underlying31 hi hz0 hz1 hz2 rfl (by decide) c.w0.heap.size vt (ns.map Prod.fst).length (flatN (ns.map Prod.fst)) (by rfl) Q3.tree ad 1 1 x.cells (by rfl) rfl C3 x.cells_one HB1.out.1.1 HB1.out.1.2 (Nat.le_trans HQ.out.1.grown.size K3.size) ?_
  intro v4 w4 O4 K4 B4
  have hV2v : ¬ vt.ownBlock = some V2 := fun e => by have := HQ.out.1.tree.lt V2 e; have := HP.out.tree.lt V2 e; have := HV.out; omega
  have VN4 := hHeld.grown K4 (fun e => hV2v e)
  have G4 := Q3.blk.grown K4 Q3.ne_tree
  have c3c : w4.cell? ⟨c.g, 3, none⟩ = some vt := G4.cell 3
  have f3c := G4.free 3
  obtain ⟨Z4, Z5, Z6⟩ := Q3.hs.put_tree (x := x) O4 K4 B4
  have L4 : w.grownBy w3 none := grown_trans HQ.out.2.2 (grown_trans (grown_drewN w2 1 none) K3)
  have V14 := (HQ.out.2.1.kept (grown_trans (grown_drewN w2 1 none) K3)).grown K4 (fun e => by have := HP.out.tree.lt V1 e; have := HV.out; omega)
  obtain ⟨a4, l4, k4, hv4⟩ := own_sl O4
  subst hv4
  refine hK.out _ _ VN4 (fun hHeld => ?_)
  clear hK K
  try simp only [Act.put, a0, a1, a2, a3, a4, a5]
  refine wpT (i := 8) (v := .pointer (some ⟨c.g, 0, none⟩)) rfl (Or.inl ⟨by rfl, fun W hW => ?_⟩) hHeld ?_
  ·clear hW
   go_simp
  try simp only [Act.put, a0, a1, a2, a3, a4, a5]
  refine wpT (i := 9) (v := .pointer (some ⟨c.g, 3, none⟩)) rfl (Or.inl ⟨by rfl, fun W hW => ?_⟩) hHeld ?_
  ·clear hW
   go_simp
  try simp only [Act.put, a0, a1, a2, a3, a4, a5]
  refine wpR (rs := [10]) (AllReadyH.cons rfl (fun K hK => ?_) AllReadyH.nil)
  go_simp
  refine hK.out _ _ (VN4.setOther (k := c.g) (i := 3) (.slice a4 l4 k4) (fun e => by have := HP.out.blk.lt; have := HV.out; omega)) (fun hHeld => ?_)
  refine wpAnyH_done (by kernel_rfl) ?_ _
  have V15 := V14.grown (grown_set w4 c.g 3 (.slice a4 l4 k4)) (fun e => by have e2 := Option.some.inj e; have := HP.out.blk.lt; have := HV.out; omega)
  have HZ : Hid (HS c (w4.setCell ⟨c.g, 3, none⟩ (.slice a4 l4 k4)) i (.slice a4 l4 k4) vp nest (ns.map Prod.fst ++ [x]) (ns.map plc) ∧ GB w (w4.setCell ⟨c.g, 3, none⟩ (.slice a4 l4 k4)) (foot c.g vt vp) ∧ ∀ y, y < w.heap.size → foot c.g (.slice a4 l4 k4) vp y → foot c.g vt vp y) := ⟨Z4, (GB.non L4).trans Z5 (fun _ _ h => h), fun y hy => Z6 y (Nat.lt_of_lt_of_le hy L4.size)⟩
  clear hK K hHeld O4 K4 B4 C3 K3 hV2v VN4 G4 c3c f3c Q3 c3 c3b Z4 Z5 Z6 L4 V14 hi hz0 hz1 hz2 i0 HQ HL HLN HX
  go_wp2_with fail
  generalize w4.setCell ⟨c.g, 3, none⟩ (.slice a4 l4 k4) = w5 at *
  have p1 : w5.cell? ⟨V1, 1, none⟩ = some (.int .i64 (tp : Int)) := V15.cell 1
  have p4 : w5.cell? ⟨c.g, 4, none⟩ = some vp := HZ.out.1.blk.cell 4
  obtain ⟨i0, hi, hz0, hz1, hz2⟩ := info_parts info3
  clear V15
  have K6 : w5.grownBy (w5.drew.alloc (.cells #[.int .i64 (tp : Int)] 3)) none := grown_trans (grown_drewN w5 1 none) (World.grownBy_alloc w5.drew (.cells #[.int .i64 (tp : Int)] 3) none)
  have HK6 : Hid (HS c (w5.drew.alloc (.cells #[.int .i64 (tp : Int)] 3)) i (.slice a4 l4 k4) vp nest (ns.map Prod.fst ++ [x]) (ns.map plc) ∧ CV (w5.drew.alloc (.cells #[.int .i64 (tp : Int)] 3)) (some ⟨w5.heap.size, 0, none⟩) [.int .i64 (tp : Int)] ∧ w5.grownBy (w5.drew.alloc (.cells #[.int .i64 (tp : Int)] 3)) none) := ⟨HZ.out.1.keep K6, cv_lit w5.drew _ _, K6⟩
  have p4b : (w5.alloc (.cells #[.int .i64 (tp : Int)] 3)).cell? ⟨c.g, 4, none⟩ = some vp := HK6.out.1.blk.cell 4
  clear K6
  go_region_law ((refine step_append_own rfl (.tmp 20) (.tmp 23) 24 rfl 3 i0 _ 1 8 Tryz.underlying24 hi hz0 hz1 hz2 rfl (by decide) c.w0.heap.size vp (ns.map plc).length ((ns.map plc).map iv) (by first | rfl | simp [Act.eval]) (by exact HK6.out.1.places) ⟨w5.heap.size, 0, none⟩ 1 1 [.int .i64 (tp : Int)] (by first | rfl | simp [Act.eval]) rfl (by exact HK6.out.2.1) (by simp [Value.oneCell']) HB1.out.2.1 HB1.out.2.2 (by exact HK6.out.1.grown.size) ?_; intro v7 w7 O7 K7' B7'; have K7 : (w5.drew.alloc (.cells #[.int .i64 (tp : Int)] 3)).grownBy w7 vp.ownBlock := K7'; have B7 : v7.ownBlock = vp.ownBlock ∨ v7.ownBlock = some (w5.drew.alloc (.cells #[.int .i64 (tp : Int)] 3)).heap.size := B7'; have A7 := blk_kept' HK6.out.1.blk HK6.out.1.places (by decide) K7; have p4c : w7.cell? ⟨c.g, 4, none⟩ = some vp := A7.cell 4; have p4f := A7.free 4; obtain ⟨a7, l7, k7, hv7⟩ := own_sl O7; subst hv7))
  all_goals (go_wp2; go_end0; exact ⟨rfl, put_end HP.out HZ.out HK6.out.2.2 O7 K7 B7⟩)

end
end Go.Proofs.YtghbbephhoniaaaGreatDoor
