import Derived.Test.YtklipelnjgpnjaaGreatDoorBAb
import Derived.Test.YtklipelnjgpnjaaGreatDoorLotB39
import Derived.Test.YtklipelnjgpnjaaGreatDoorLotB7
import Derived.Deep.RegionHeld3
import Derived.Test.YtklipelnjgpnjaaGreatDoorLotB5
import Derived.Maps.AppendAt
import Derived.Deep.RegionLaw
set_option maxHeartbeats 64000000
set_option maxRecDepth 100000
namespace Go.Proofs.YtklipelnjgpnjaaGreatDoor
open Go.RowKit
theorem a2d {P : Program} {fn : Func} {p : Tmp} {ty : TypeId} (h : fn.results = #[.cell p ty]) (tmps : Array Value) (w : World) (g : Nat) (cs : Array Value) (d : TypeDesc) (hp : tmps.getD p undef = .pointer (some ⟨g, 0, none⟩)) (A : VAt w g ty cs)
  (hu : P.underlying ty = some d) (hd : (match d with | .struct _ | .array _ _ => true | _ => false) = true) (hi : (P.info? ty).map (·.size) = some cs.size) : (results fn tmps).run P w = .ok (.agg cs) w := by
 have hp' : tmps[p]?.getD undef = .pointer (some ⟨g, 0, none⟩) := by simpa using hp
 have h1 := run_loadVar_row (P := P) w g ty ty cs (0, 0) _ A hu hd hi
 simp [results, h, hp', asAddr, h1]
def tkC (t : Tk) : Array Value := #[.int .i64 (t.kind : Int), .int .i64 (t.pos : Int), str t.text, .int .u32 (t.num : Int)]
theorem M6 : (Tryz.prog.info? 99).map (·.size) = some 4 := by kernel_rfl
theorem ae9 (t : Tk) : (tkC t).all (·.oneCell') = true := by simp [tkC, Value.oneCell']
theorem b0a {w W : World} {R : Nat} {z0 z1 z2 z3 : Value} (hR : w.heap.size ≤ R) (A : VAt W R 99 #[z0, z1, z2, z3]) (G : w.grownBy W none) (a b d e : Value) :
  VAt ((((W.setCell ⟨R, 0, none⟩ a).setCell ⟨R, 1, none⟩ b).setCell ⟨R, 2, none⟩ d).setCell ⟨R, 3, none⟩ e) R 99 #[a, b, d, e] ∧ w.grownBy ((((W.setCell ⟨R, 0, none⟩ a).setCell ⟨R, 1, none⟩ b).setCell ⟨R, 2, none⟩ d).setCell ⟨R, 3, none⟩ e) none :=
 ⟨(((A.set 0 a).set 1 b).set 2 d).set 3 e, T2 (T2 (T2 (T2 G _ _ (.inr hR)) _ _ (.inr hR)) _ _ (.inr hR)) _ _ (.inr hR)⟩

section
variable {c : PC} {w : World} {i nest bud : Nat} {vt vp : Value} {ts : List Tk} {ns : List (Nd × Nat)}
theorem PS.reads (h : PS c w i vt vp ts nest bud ns) : ∃ b off ca, c.tv = .slice (some ⟨b, off, none⟩) c.all.length ca ∧ i < c.all.length ∧ w.cell? ⟨c.g, 0, none⟩ = some (.slice (some ⟨b, off, none⟩) c.all.length ca) ∧ w.cell? ⟨c.g, 1, none⟩ = some (.int .i64 (i : Int)) ∧
  w.cell? ⟨b, off + i * 4, none⟩ = some (.int .i64 ((hdT ts).kind : Int)) ∧ w.cell? ⟨b, off + i * 4 + 1, none⟩ = some (.int .i64 ((hdT ts).pos : Int)) ∧ w.cell? ⟨b, off + i * 4 + 2, none⟩ = some (str (hdT ts).text) ∧ w.cell? ⟨b, off + i * 4 + 3, none⟩ = some (.int .u32 ((hdT ts).num : Int)) := by
 obtain ⟨hi, ht, -⟩ := h.idx
 obtain ⟨a, ca, htv, hC, -⟩ := h.toks.items
 obtain ⟨b, off, rfl, hc⟩ := hC.toks hi
 obtain ⟨k0, k1, k2, k3⟩ := hc i hi
 rw [ht] at k0 k1 k2 k3
 have c0 : w.cell? ⟨c.g, 0, none⟩ = some c.tv := h.blk.cell 0
 rw [htv] at c0
 exact ⟨b, off, ca, htv, hi, c0, h.blk.cell 1, k0, k1, k2, k3⟩
theorem I6 (h : PS c w i vt vp ts nest bud ns) :
  Calls Tryz.prog 87 #[.pointer (some ⟨c.g, 0, none⟩)] w fun e w' => e = .returned (.agg (tkC (hdT ts))) ∧ w.grownBy w' none := by
 have hl := h.len
 have G := World.grownBy_alloc w (.cells #[.int .i64 0, .int .i64 0, .string ⟨#[]⟩, .int .u32 0] 99) none
 have RA := VAt.alloc w 99 #[.int .i64 0, .int .i64 0, .string ⟨#[]⟩, .int .u32 0]
 obtain ⟨b, off, ca, -, hi, c0, c1, k0, k1, k2, k3⟩ := (h.keep G).reads
 clear h
 unfold tkC
 generalize hdT ts = t at *
 obtain ⟨tk, tp, tx, tn⟩ := t
 simp only at *
 generalize c.g = g at *
 generalize c.all.length = n at *
 have hlt : (i : Int) < (n : Int) := by omega
 go_enter Tryz.func87, Tryz.ntmps87
 go_upto_region 1 with fail
 have HR : Hid (w.heap.size ≤ w.heap.size) := Nat.le_refl _
 generalize w.alloc (.cells #[.int .i64 0, .int .i64 0, .string ⟨#[]⟩, .int .u32 0] 99) = W at *
 obtain ⟨R, hR⟩ : ∃ R, w.heap.size = R := ⟨_, rfl⟩
 rw [hR] at RA
 have r0 : W.cell? ⟨R, 0, none⟩ = some (.int .i64 0) := RA.cell 0
 have r1 : W.cell? ⟨R, 1, none⟩ = some (.int .i64 0) := RA.cell 1
 have r2 : W.cell? ⟨R, 2, none⟩ = some (.string ⟨#[]⟩) := RA.cell 2
 have r3 : W.cell? ⟨R, 3, none⟩ = some (.int .u32 0) := RA.cell 3
 have f0 := RA.free 0
 have f1 := RA.free 1
 have f2 := RA.free 2
 have f3 := RA.free 3
 rw [hR]
 have HR2 : Hid (w.heap.size ≤ R) := Nat.le_of_eq hR
 have HRA : Hid (VAt W R 99 #[.int .i64 0, .int .i64 0, .string ⟨#[]⟩, .int .u32 0]) := RA
 have HG : Hid (w.grownBy W none) := G
 clear hR HR RA G
 go_region
 go_wp2
 obtain ⟨A, K⟩ := b0a HR2.out HRA.out HG.out (.int .i64 (tk : Int)) (.int .i64 (tp : Int)) (str tx) (.int .u32 (tn : Int))
 refine bodyPost_ret (a2d rfl _ _ R _ _ rfl A Tryz.underlying99 rfl M6) rfl ?_
 exact ⟨rfl, d3 K (f9 _ 1 none)⟩
theorem T6 (h : PS c w i vt vp ts nest bud ns) (hk : (hdT ts).kind ≠ 0) :
  Calls Tryz.prog 151 #[.pointer (some ⟨c.g, 0, none⟩)] w fun e w' => e = .returned (.agg (tkC (hdT ts))) ∧ Ret c w vt vp ts.tail nest (bud + 1) ns w' := by
 have hl := h.len
 have hi := h.idx.1
 have G := World.grownBy_alloc w (.cells #[.int .i64 0, .int .i64 0, .string ⟨#[]⟩, .int .u32 0] 99) none
 have RA := VAt.alloc w 99 #[.int .i64 0, .int .i64 0, .string ⟨#[]⟩, .int .u32 0]
 have H1 := h.keep G
 have HP : Hid (PS c w i vt vp ts nest bud ns) := h
 go_enter Tryz.func151, Tryz.ntmps151
 go_upto_region 1 with fail
 generalize w.alloc (.cells #[.int .i64 0, .int .i64 0, .string ⟨#[]⟩, .int .u32 0] 99) = W at *
 obtain ⟨R, hR⟩ : ∃ R, w.heap.size = R := ⟨_, rfl⟩
 rw [hR] at RA ⊢
 have HR2 : Hid (w.heap.size ≤ R) := Nat.le_of_eq hR
 clear h hR
 go_wp2_with fail
 refine (I6 H1).mono ?_
 rintro e w1 ⟨rfl, G1⟩
 have RA1 := RA.kept G1
 have H2 := H1.keep G1
 have G2 := d3 G G1
 clear H1 G1 RA G
 unfold tkC
 have HK : Hid ((hdT ts).kind ≠ 0) := hk
 clear hk
 obtain ⟨t, ht⟩ : ∃ t, hdT ts = t := ⟨_, rfl⟩
 have HT : Hid (hdT ts = t) := ht
 rw [ht]
 clear ht
 obtain ⟨tk, tp, tx, tn⟩ := t
 simp only
 have KA := World.grownBy_alloc w1 (.cells #[.int .i64 (tk : Int), .int .i64 (tp : Int), str tx, .int .u32 (tn : Int)] 99) none
 have VA := VAt.alloc w1 99 #[.int .i64 (tk : Int), .int .i64 (tp : Int), str tx, .int .u32 (tn : Int)]
 have H3 := H2.keep KA
 have RA2 := RA1.kept KA
 have G3 := d3 G2 KA
 have HV : Hid (w.heap.size ≤ w1.heap.size) := G2.size
 go_upto_region 2 with fail
 generalize w1.alloc (.cells #[.int .i64 (tk : Int), .int .i64 (tp : Int), .string ⟨tx.toArray⟩, .int .u32 (tn : Int)] 99) = w2 at *
 generalize w1.heap.size = V at *
 clear H2 RA1 G2 KA
 have c1 : w2.cell? ⟨c.g, 1, none⟩ = some (.int .i64 (i : Int)) := H3.blk.cell 1
 have f1 := H3.blk.free 1
 have hw : IntKind.i64.wrap ((i : Int) + 1) = ((i + 1 : Nat) : Int) := by rw [IntKind.wrap_i64]; omega
 have HQ : Hid (PS c (w2.setCell ⟨c.g, 1, none⟩ (.int .i64 ((i : Int) + 1))) (i + 1) vt vp ts.tail nest (bud + 1) ns ∧ GB w (w2.setCell ⟨c.g, 1, none⟩ (.int .i64 ((i : Int) + 1))) (d5 c.g vt vp)) :=
  ⟨H3.take HK.out, (GB.non G3).trans (GB.set w2 vt vp c.g 1 _) (fun _ _ h => h)⟩
 have hgV : V ≠ c.g := fun e => by have := HP.out.blk.lt; have := HV.out; omega
 have hgR : R ≠ c.g := fun e => by have := HP.out.blk.lt; have := HR2.out; omega
 have VA3 := VA.grown (U4 w2 c.g 1 (.int .i64 ((i : Int) + 1))) (fun e => hgV (Option.some.inj e).symm)
 have RA3 := RA2.grown (U4 w2 c.g 1 (.int .i64 ((i : Int) + 1))) (fun e => hgR (Option.some.inj e).symm)
 clear VA RA2 H3 G3
 go_upto_region 3 with fail
 generalize w2.setCell ⟨c.g, 1, none⟩ (.int .i64 ((i : Int) + 1)) = w3 at *
 go_wp2_with (first
  | refine wpList_load_row rfl 99 (.tmp 3) rfl V rfl 99 _ (0, 0) _ VA3 Tryz.underlying99 rfl M6 ?_
  | refine wpList_store_row rfl 99 (.tmp 2) (.tmp 13) rfl R (tkC ⟨tk, tp, tx, tn⟩) rfl rfl 99 _ RA3 M6 rfl (ae9 _) ?_)
 refine bodyPost_ret (a2d rfl _ _ R _ _ rfl (RA3.setRow _) Tryz.underlying99 rfl M6) rfl ?_
 exact ⟨by rw [HT.out], Ret.fin HP.out HQ.out.2 (fun _ _ h => h) HQ.out.1 (D7 (World.grownBy.refl w3 (some R)) R _ (.inl rfl)) HR2.out (HP.out.not_foot HR2.out)⟩
theorem T1 (k p : Int) (x : Value) (n : Int) (W : World) : (Instr.field 99 (.agg #[.int .i64 k, .int .i64 p, x, .int .u32 n]) 0).run Tryz.prog W = .ok (.int .i64 k) W ∧ (Instr.field 99 (.agg #[.int .i64 k, .int .i64 p, x, .int .u32 n]) 1).run Tryz.prog W = .ok (.int .i64 p) W ∧
  (Instr.field 99 (.agg #[.int .i64 k, .int .i64 p, x, .int .u32 n]) 2).run Tryz.prog W = .ok x W ∧ (Instr.field 99 (.agg #[.int .i64 k, .int .i64 p, x, .int .u32 n]) 3).run Tryz.prog W = .ok (.int .u32 n) W := ⟨by kernel_rfl, by kernel_rfl, by kernel_rfl, by kernel_rfl⟩
theorem a4L (h : PS c w i vt vp ts nest bud ns) (e : Int) :
  Calls Tryz.prog 125 #[.pointer (some ⟨c.g, 0, none⟩), .int .i64 e] w fun x w' => x = .panicked (a0e ((hdT ts).pos, e)) ∧ w.grownBy w' none := by
 have CN := I6 h
 unfold tkC at CN
 have HF := fun k p x n W => (T1 k p x n W).2.1
 unfold a0e
 generalize hdT ts = t at *
 obtain ⟨tk, tp, tx, tn⟩ := t
 simp only at *
 clear h
 go_enter Tryz.func125, Tryz.ntmps125
 go_wp2_with fail
 refine CN.mono ?_
 rintro x w1 ⟨rfl, G⟩
 clear CN
 go_wp2
 exact ⟨rfl, rfl, G⟩
def a0b (ts : List Tk) : Er := ((hdT ts).pos, if (hdT ts).kind = 0 then 110 else 111)
theorem a6e {α : Type} (ts : List Tk) : (S5 ts 111 : Except Er α) = .error (a0b ts) := rfl
theorem a3z (h : PS c w i vt vp ts nest bud ns) :
  Calls Tryz.prog 88 #[.pointer (some ⟨c.g, 0, none⟩)] w fun x w' => x = .panicked (a0e (a0b ts)) ∧ w.grownBy w' none := by
 have CN := I6 h
 unfold a0b
 have HG : Hid (∀ W, w.grownBy W none → ∀ e, Calls Tryz.prog 125 #[.pointer (some ⟨c.g, 0, none⟩), .int .i64 e] W fun x w' => x = .panicked (a0e ((hdT ts).pos, e)) ∧ W.grownBy w' none) := fun W G e => a4L (h.keep G) e
 unfold tkC at CN
 have HF := fun k p x n W => (T1 k p x n W).1
 generalize hdT ts = t at *
 obtain ⟨tk, tp, tx, tn⟩ := t
 simp only at *
 clear h
 by_cases hk : tk = 0
 ·have hk' : ((tk : Int) == 0) = true := by rw [hk]; rfl
  rw [if_pos hk]
  clear hk
  go_enter Tryz.func88, Tryz.ntmps88
  go_wp2_with fail
  refine CN.mono ?_
  rintro x w1 ⟨rfl, G⟩
  clear CN
  go_wp2_with fail
  refine (HG.out w1 G _).mono ?_
  rintro x w2 ⟨rfl, G2⟩
  go_wp2
  exact ⟨rfl, rfl, d3 G G2⟩
 ·have hk' : ((tk : Int) == 0) = false := by rw [beq_eq_false_iff_ne]; omega
  rw [if_neg hk]
  clear hk
  go_enter Tryz.func88, Tryz.ntmps88
  go_wp2_with fail
  refine CN.mono ?_
  rintro x w1 ⟨rfl, G⟩
  clear CN
  go_wp2_with fail
  refine (HG.out w1 G _).mono ?_
  rintro x w2 ⟨rfl, G2⟩
  go_wp2
  exact ⟨rfl, rfl, d3 G G2⟩

end
theorem ax6 (a : Option Addr) (ca : Nat) (xs : List (List UInt8)) (x : List UInt8) (w : World) (ha : CV w a (xs.map str)) (hm : xs.length ≤ 1000) :
  Calls Tryz.prog 195 #[.slice a xs.length ca, str x] w fun e w' => ∃ z : Int, e = .returned (.int .i64 z) ∧ (decide ((0 : Int) ≤ z) = decide (x ∈ xs)) ∧ ∃ n, w' = w.drewN n := by
 have HA : Hid (CV w a (xs.map str)) := ha
 clear ha
 go_enter Tryz.func195, Tryz.ntmps195
 go_wp2
 go_loopw [8] (fun i wr => ∃ k : Nat, k ≤ xs.length ∧ i = .int .i64 k ∧ Hid (∀ j, j < k → ∀ y, xs[j]? = some y → y ≠ x) ∧ ∃ n, wr = w.drewN n) (fun i _ => xs.length - (intOf i).toNat)
 case atStart => exact ⟨0, Nat.zero_le _, rfl, fun j hj => by omega, 0, rfl⟩
 case round =>
  obtain ⟨k, hk, rfl, HI, n, rfl⟩ := hrel
  by_cases hlt : k < xs.length
  ·obtain ⟨b, o, rfl, hc⟩ := HA.out.addr (k := k) (by simpa using hlt)
   have hc1 := hc k (by simpa using hlt)
   rw [List.getElem_map] at hc1
   have hl : (k : Int) < (xs.length : Int) := by omega
   clear hc
   by_cases he : x = xs[k]
   ·have HM : Hid (x ∈ xs) := by show x ∈ xs; rw [he]; exact List.getElem_mem hlt
    have hE : (x == xs[k]) = true := by simpa using he
    clear he
    generalize xs[k] = y at *
    go_wp2
    go_ret
    exact ⟨_, rfl, by rw [decide_eq_true HM.out]; simp, _, rfl⟩
   ·have HN : Hid (∀ j, j < k + 1 → ∀ y, xs[j]? = some y → y ≠ x) := fun j hj y hy => by
     by_cases e : j = k
     ·subst e
      rw [List.getElem?_eq_getElem hlt] at hy
      cases hy
      exact fun e => he e.symm
     ·exact HI.out j (by omega) y hy
    have hE : (x == xs[k]) = false := by simpa using he
    clear he HI
    generalize xs[k] = y at *
    go_wp2
    go_roundw
    case rel => exact ⟨k + 1, by omega, by go_num, HN, _, by rfl⟩
    case measure => simp [intOf]; omega
  ·obtain rfl : k = xs.length := by omega
   have HM : Hid (¬ x ∈ xs) := fun e => by
    obtain ⟨j, hj, e⟩ := List.getElem_of_mem e
    exact HI.out j hj _ (List.getElem?_eq_getElem hj) e
   clear HI
   go_wp2
   go_ret
   exact ⟨_, rfl, by rw [decide_eq_false HM.out]; simp, n, rfl⟩
theorem ap6 (a : Option Addr) (ca : Nat) (xs : List (List UInt8)) (x : List UInt8) (w : World) (ha : CV w a (xs.map str)) (hm : xs.length ≤ 1000) :
  Calls Tryz.prog 173 #[.slice a xs.length ca, str x] w fun e w' => e = .returned (.bool (decide (x ∈ xs))) ∧ ∃ n, w' = w.drewN n := by
 have C := ax6 a ca xs x w ha hm
 generalize decide (x ∈ xs) = B at *
 clear ha
 go_enter Tryz.func173, Tryz.ntmps173
 go_wp2_with fail
 refine C.mono ?_
 rintro e w1 ⟨z, rfl, hz, n, rfl⟩
 clear C
 go_wp2
 go_ret
 exact ⟨rfl, n, rfl⟩

section
variable {c : PC} {w : World} {i nest bud : Nat} {vt vp : Value} {ts : List Tk} {ns : List (Nd × Nat)}
theorem a2j (h : PS c w i vt vp ts nest bud ns) (a : Option Addr) (ca : Nat) (xs : List (List UInt8)) (ha : CV w a (xs.map str)) (hm : xs.length ≤ 1000) :
  Calls Tryz.prog 150 #[.pointer (some ⟨c.g, 0, none⟩), .slice a xs.length ca] w fun e w' => e = .returned (.bool (decide ((hdT ts).text ∈ xs))) ∧ w.grownBy w' none := by
 have CN := I6 h
 have HC : Hid (∀ W, w.grownBy W none → Calls Tryz.prog 173 #[.slice a xs.length ca, str (hdT ts).text] W fun e w' => e = .returned (.bool (decide ((hdT ts).text ∈ xs))) ∧ ∃ n, w' = W.drewN n) := fun W G => ap6 a ca xs _ W (ha.keptNone G) hm
 unfold tkC at CN
 have HF := fun k p x n W => (T1 k p x n W).2.2.1
 generalize hdT ts = t at *
 obtain ⟨tk, tp, tx, tn⟩ := t
 simp only at *
 generalize decide (tx ∈ xs) = B at *
 clear h ha
 go_enter Tryz.func150, Tryz.ntmps150
 go_wp2_with fail
 refine CN.mono ?_
 rintro x w1 ⟨rfl, G⟩
 clear CN
 go_wp2_with fail
 refine (HC.out w1 G).mono ?_
 rintro x w2 ⟨rfl, n, rfl⟩
 clear HC
 go_wp2
 go_ret
 exact ⟨rfl, d3 G (f9 _ _ _)⟩
def a7A (c : PC) (w : World) (vt vp : Value) (ts : List Tk) (nest bud : Nat) (ns : List (Nd × Nat)) : Bool → World → Prop
 | true, w' => Ret c w vt vp ts.tail nest (bud + 1) ns w'
 | false, w' => w.grownBy w' none
theorem a2O (h : PS c w i vt vp ts nest bud ns) (x : List UInt8) (hx : R0 x) :
  Calls Tryz.prog 229 #[.pointer (some ⟨c.g, 0, none⟩), str x] w fun e w' => e = .returned (.bool (isB ts x)) ∧ a7A c w vt vp ts nest bud ns (isB ts x) w' := by
 have hb := a11 h.good.hd hx
 have G0 := World.grownBy_alloc w (.cells #[str x] 9) none
 have CS := a2j (h.keep G0) (some ⟨w.heap.size, 0, none⟩) 1 [x] (s0 w _ _) (by simp)
 have hm : decide ((hdT ts).text ∈ [x]) = isB ts x := by rw [hb]; simp
 rw [hm] at CS
 have HT : Hid (∀ W, w.grownBy W none → isB ts x = true → Calls Tryz.prog 151 #[.pointer (some ⟨c.g, 0, none⟩)] W fun e w' => e = .returned (.agg (tkC (hdT ts))) ∧ Ret c w vt vp ts.tail nest (bud + 1) ns w') := fun W G hb' =>
  (T6 (h.keep G) (a3b hb')).mono fun e w' ⟨he, hR⟩ => ⟨he, Ret.of (GB.non G) (fun _ _ k => k) hR⟩
 generalize (⟨x.toArray⟩ : ByteArray) = X at *
 clear h hm hb
 generalize isB ts x = B at *
 simp only [List.length_singleton] at CS
 cases B with
 | true =>
  go_enter Tryz.func229, Tryz.ntmps229
  go_wp2_with fail
  refine CS.mono ?_
  rintro e w1 ⟨rfl, G⟩
  clear CS
  go_wp2_with fail
  refine (HT.out w1 (d3 G0 G) (by first | trivial | rfl)).mono ?_
  rintro e w2 ⟨rfl, R⟩
  clear HT G G0
  go_wp2
  go_ret
  exact ⟨rfl, R⟩
 | false =>
  go_enter Tryz.func229, Tryz.ntmps229
  go_wp2_with fail
  refine CS.mono ?_
  rintro e w1 ⟨rfl, G⟩
  clear CS
  go_wp2
  go_ret
  exact ⟨rfl, d3 G0 G⟩
def ah6 (c : PC) (w : World) (vt vp : Value) (nest bud : Nat) (ns : List (Nd × Nat)) (r : Except Er (List Tk)) (e : Ending) (w' : World) : Prop := match r with
 | .ok ts' => e = .returned (.tuple #[]) ∧ Ret c w vt vp ts' nest bud ns w'
 | .error er => e = .panicked (a0e er) ∧ GB w w' (d5 c.g vt vp)
theorem a2z (h : PS c w i vt vp ts nest bud ns) (x : List UInt8) (hx : R0 x) :
  Calls Tryz.prog 225 #[.pointer (some ⟨c.g, 0, none⟩), str x] w (ah6 c w vt vp nest (bud + 1) ns (p9 x ts)) := by
 have CS := a2O h x hx
 have HS : Hid (∀ W, w.grownBy W none → Calls Tryz.prog 88 #[.pointer (some ⟨c.g, 0, none⟩)] W fun e w' => e = .panicked (a0e (a0b ts)) ∧ W.grownBy w' none) := fun W G => a3z (h.keep G)
 unfold p9
 generalize (⟨x.toArray⟩ : ByteArray) = X at *
 cases hb : isB ts x with
 | true =>
  rw [if_pos rfl]
  rw [hb] at CS
  clear h HS hb
  go_enter Tryz.func225, Tryz.ntmps225
  go_wp2_with fail
  refine CS.mono ?_
  rintro e w1 ⟨rfl, R⟩
  clear CS
  go_wp2
  go_end0
  exact ⟨rfl, R⟩
 | false =>
  rw [if_neg (by simp), a6e]
  rw [hb] at CS
  clear h hb
  go_enter Tryz.func225, Tryz.ntmps225
  go_wp2_with fail
  refine CS.mono ?_
  rintro e w1 ⟨rfl, hG⟩
  have G : w.grownBy w1 none := hG
  clear CS hG
  go_wp2_with fail
  refine (HS.out w1 G).mono ?_
  rintro e w2 ⟨rfl, G2⟩
  clear HS
  go_wp2
  exact ⟨rfl, rfl, GB.non (d3 G G2)⟩
theorem a2M (h : PS c w i vt vp ts nest bud ns) :
  Calls Tryz.prog 223 #[.pointer (some ⟨c.g, 0, none⟩)] w (a0f c w vt vp nest (bud + 1) ns (fun n : Nat => .int .u32 (n : Int)) (m8 ts)) := by
 have CN := I6 h
 have HS : Hid (∀ W, w.grownBy W none → Calls Tryz.prog 88 #[.pointer (some ⟨c.g, 0, none⟩)] W fun e w' => e = .panicked (a0e (a0b ts)) ∧ W.grownBy w' none) := fun W G => a3z (h.keep G)
 have HT : Hid (∀ W, w.grownBy W none → (hdT ts).kind ≠ 0 → Calls Tryz.prog 151 #[.pointer (some ⟨c.g, 0, none⟩)] W fun e w' => e = .returned (.agg (tkC (hdT ts))) ∧ Ret c w vt vp ts.tail nest (bud + 1) ns w') := fun W G hk =>
  (T6 (h.keep G) hk).mono fun e w' ⟨he, hR⟩ => ⟨he, Ret.of (GB.non G) (fun _ _ k => k) hR⟩
 unfold m8
 rw [a6e]
 generalize a0b ts = er at *
 unfold tkC at CN HT
 have HF := fun k p x n W => (T1 k p x n W).1
 have HF3 := fun k p x n W => (T1 k p x n W).2.2.2
 generalize hdT ts = t at *
 obtain ⟨tk, tp, tx, tn⟩ := t
 simp only at *
 clear h
 by_cases hk : tk = 1
 ·rw [if_pos hk]
  have hk' : ((tk : Int) != 1) = false := by rw [hk]; rfl
  have hk0 : tk ≠ 0 := by omega
  clear hk HS
  go_enter Tryz.func223, Tryz.ntmps223
  go_wp2_with fail
  refine CN.mono ?_
  rintro e w1 ⟨rfl, G⟩
  clear CN
  go_wp2_with fail
  refine (HT.out w1 G hk0).mono ?_
  rintro e w2 ⟨rfl, R⟩
  clear HT G
  go_wp2
  go_ret
  exact ⟨rfl, R⟩
 ·rw [if_neg hk]
  have hk' : ((tk : Int) != 1) = true := by rw [bne_iff_ne]; omega
  clear hk HT
  go_enter Tryz.func223, Tryz.ntmps223
  go_wp2_with fail
  refine CN.mono ?_
  rintro e w1 ⟨rfl, G⟩
  clear CN
  go_wp2_with fail
  refine (HS.out w1 G).mono ?_
  rintro e w2 ⟨rfl, G2⟩
  clear HS
  go_wp2
  exact ⟨rfl, rfl, GB.non (d3 G G2)⟩
theorem ar5 (h : PS c w i vt vp ts nest bud ns) :
  Calls Tryz.prog 34 #[.pointer (some ⟨c.g, 0, none⟩)] w fun e w' => w.grownBy w' none ∧ (((hdT ts).kind = 0 ∧ e = .returned (.tuple #[])) ∨ ((hdT ts).kind ≠ 0 ∧ e = .panicked (a0e (a0b ts)))) := by
 have CN := I6 h
 have HS : Hid (∀ W, w.grownBy W none → Calls Tryz.prog 88 #[.pointer (some ⟨c.g, 0, none⟩)] W fun e w' => e = .panicked (a0e (a0b ts)) ∧ W.grownBy w' none) := fun W G => a3z (h.keep G)
 generalize a0b ts = er at *
 unfold tkC at CN
 have HF := fun k p x n W => (T1 k p x n W).1
 generalize hdT ts = t at *
 obtain ⟨tk, tp, tx, tn⟩ := t
 simp only at *
 clear h
 by_cases hk : tk = 0
 ·have hk' : ((tk : Int) != 0) = false := by rw [hk]; rfl
  have HK : Hid (tk = 0) := hk
  clear hk HS
  go_enter Tryz.func34, Tryz.ntmps34
  go_wp2_with fail
  refine CN.mono ?_
  rintro e w1 ⟨rfl, G⟩
  clear CN
  go_wp2
  go_end0
  exact ⟨G, .inl ⟨HK.out, rfl⟩⟩
 ·have hk' : ((tk : Int) != 0) = true := by rw [bne_iff_ne]; omega
  have HK : Hid (tk ≠ 0) := hk
  clear hk
  go_enter Tryz.func34, Tryz.ntmps34
  go_wp2_with fail
  refine CN.mono ?_
  rintro e w1 ⟨rfl, G⟩
  clear CN
  go_wp2_with fail
  refine (HS.out w1 G).mono ?_
  rintro e w2 ⟨rfl, G2⟩
  clear HS
  go_wp2
  exact ⟨rfl, d3 G G2, .inr ⟨HK.out, rfl⟩⟩

end
theorem aD1 (x : Nd) (W : World) : (Instr.buildSlice 22 1 #[(0, .agg x.cells.toArray)]).run Tryz.prog W = .ok (.slice (some ⟨W.heap.size, 0, none⟩) 1 1) (W.alloc (.cells x.cells.toArray 43)) := by kernel_rfl
theorem aD0 (z : Int) (W : World) : (Instr.buildSlice 33 1 #[(0, .int .i64 z)]).run Tryz.prog W = .ok (.slice (some ⟨W.heap.size, 0, none⟩) 1 1) (W.alloc (.cells #[.int .i64 z] 3)) := by kernel_rfl
theorem an0 (x : Nd) (W : World) : (Instr.box 43 (.agg x.cells.toArray)).run Tryz.prog W = .ok (.pointer (some ⟨W.heap.size, 0, none⟩)) (W.alloc (.cells x.cells.toArray 43)) := by kernel_rfl

section
variable {c : PC} {w : World} {i nest bud : Nat} {vt vp : Value} {ts : List Tk} {ns : List (Nd × Nat)}
theorem a9Y {w5 w6 w7 : World} {v4 v7 : Value} {x : Nd} {tp : Nat} (h : PS c w i vt vp ts nest (bud + 1) ns) (HZ : HS c w5 i v4 vp nest (ns.map Prod.fst ++ [x]) (ns.map plc) ∧ GB w w5 (d5 c.g vt vp) ∧ ∀ y, y < w.heap.size → d5 c.g v4 vp y → d5 c.g vt vp y) (K6 : w5.grownBy w6 none)
  (O : w7.ownsRow c.w0.heap.size 3 1 v7 ((ns.map plc).length + 1) ((ns.map plc).map iv ++ [.int .i64 (tp : Int)])) (K : w6.grownBy w7 vp.ownBlock) (B : v7.ownBlock = vp.ownBlock ∨ v7.ownBlock = some w6.heap.size) : Ret c w vt vp ts nest bud (ns ++ [(x, tp)]) (w7.setCell ⟨c.g, 4, none⟩ v7) := by
 obtain ⟨h1, h2, h3⟩ := (HZ.1.keep K6).put_places O K B
 have hs6 := K6.size
 have hs5 := HZ.2.1.size
 refine ⟨i, v4, v7, h.of_hs (by rw [List.map_append, List.map_append]; exact h1) (by have := h.bud_le; rw [List.length_append, List.length_singleton]; omega), ?_, ?_⟩
 ·exact HZ.2.1.trans ((GB.non K6).trans h2 (fun _ _ h => h)) (fun y hy => HZ.2.2 y hy)
 ·intro y hy hf
  exact HZ.2.2 y hy (h3 y (by omega) hf)
theorem P8 (h : PS c w i vt vp ts nest (bud + 1) ns) (t : Tk) (x : Nd) :
  Calls Tryz.prog 152 #[.pointer (some ⟨c.g, 0, none⟩), .agg (tkC t), .agg x.cells.toArray] w fun e w' => e = .returned (.tuple #[]) ∧ Ret c w vt vp ts nest bud (ns ++ [(x, t.pos)]) w' := by
 obtain ⟨tk, tp, tx, tn⟩ := t
 unfold tkC
 simp only
 have HBX := an0 x
 obtain ⟨X, hX⟩ : ∃ X, x.cells.toArray = X := ⟨_, rfl⟩
 rw [hX] at HBX ⊢
 go_enter Tryz.func152, Tryz.ntmps152
 have VT := VAt.alloc w 99 #[.int .i64 (tk : Int), .int .i64 (tp : Int), str tx, .int .u32 (tn : Int)]
 have K1 := World.grownBy_alloc w (.cells #[.int .i64 (tk : Int), .int .i64 (tp : Int), str tx, .int .u32 (tn : Int)] 99) none
 have K2 := World.grownBy_alloc (w.alloc (.cells #[.int .i64 (tk : Int), .int .i64 (tp : Int), str tx, .int .u32 (tn : Int)] 99)) (.cells X 43) none
 have VN := VAt.alloc (w.alloc (.cells #[.int .i64 (tk : Int), .int .i64 (tp : Int), str tx, .int .u32 (tn : Int)] 99)) 43 X
 rw [show (w.alloc (.cells #[.int .i64 (tk : Int), .int .i64 (tp : Int), str tx, .int .u32 (tn : Int)] 99)).heap.size = w.heap.size + 1 by simp] at VN
 have VT2 := VT.kept K2
 have G := d3 K1 K2
 have H2 := h.keep G
 have HP : Hid (PS c w i vt vp ts nest (bud + 1) ns) := h
 go_upto_region 1 with fail
 generalize (w.alloc (.cells #[.int .i64 (tk : Int), .int .i64 (tp : Int), str tx, .int .u32 (tn : Int)] 99)).alloc (.cells X 43) = w2 at *
 obtain ⟨V1, hV1⟩ : ∃ V, w.heap.size = V := ⟨_, rfl⟩
 obtain ⟨V2, hV2⟩ : ∃ V, w.heap.size + 1 = V := ⟨_, rfl⟩
 rw [hV2] at VN ⊢
 rw [hV1] at VT2 ⊢
 have HV : Hid (w.heap.size ≤ V1 ∧ V1 < w2.heap.size ∧ w.heap.size < V2) := ⟨Nat.le_of_eq hV1, VT2.lt, by omega⟩
 clear hV1 hV2 VT K1 K2 h HBX
 have hXs : X.size = 24 := by rw [← hX]; rfl
 have HL : Hid (VAt w2.drew V2 43 X ∧ (Tryz.prog.info? 43).map (·.size) = some X.size) := ⟨VN, by rw [hXs]; exact a4c⟩
 have LN := aD1 x
 rw [hX] at LN
 have LI := aD0
 have HLN : Hid (∀ W : World, (Instr.buildSlice 22 1 #[(0, .agg X)]).run Tryz.prog W = .ok (.slice (some ⟨W.heap.size, 0, none⟩) 1 1) (W.alloc (.cells x.cells.toArray 43))) := fun W => by rw [hX]; exact LN W
 have HX : Hid (x.cells.toArray = X) := hX
 have HB1 : Hid (((ns.map Prod.fst).length + 1 ≤ maxLen ∧ ((ns.map Prod.fst).length + 1) * 72 ≤ 140737488355328) ∧ ((ns.map plc).length + 1 ≤ maxLen ∧ ((ns.map plc).length + 1) * 8 ≤ 140737488355328)) := by
  have := HP.out.bud_le
  simp only [List.length_map]
  unfold maxLen
  exact ⟨⟨by omega, by omega⟩, by omega, by omega⟩
 have c3 : w2.cell? ⟨c.g, 3, none⟩ = some vt := H2.blk.cell 3
 have HQ : Hid (PS c w2 i vt vp ts nest (bud + 1) ns ∧ VAt w2 V1 99 #[.int .i64 (tk : Int), .int .i64 (tp : Int), str tx, .int .u32 (tn : Int)] ∧ w.grownBy w2 none) := ⟨H2, VT2, G⟩
 obtain ⟨i0, hi, hz0, hz1, hz2⟩ := info_parts a94
 clear H2 VT2 G hX LN LI VN hXs
 refine wp_region_held_drew (S := fun W => VAt W V2 43 X) (by kernel_rfl) HL.out.1 (fun hHeld => ?_)
 refine wpT (i := 0) (v := .pointer (some ⟨c.g, 0, none⟩)) rfl (Or.inl ⟨by rfl, fun W hW => ?_⟩) hHeld ?_
 ·clear hW
  go_simp
 try simp only [Act.put, a0, a1, a3, a4, a5]
 refine wpT (i := 1) (v := .pointer (some ⟨c.g, 0, none⟩)) rfl (Or.inl ⟨by rfl, fun W hW => ?_⟩) hHeld ?_
 ·clear hW
  go_simp
 try simp only [Act.put, a0, a1, a2, a3, a4, a5]
 refine wpT (i := 2) (v := .pointer (some ⟨c.g, 0, none⟩)) rfl (Or.inl ⟨by rfl, fun W hW => ?_⟩) hHeld ?_
 ·clear hW
  go_simp
 try simp only [Act.put, a0, a1, a2, a3, a4, a5]
 refine wpT (i := 3) (v := .pointer (some ⟨c.g, 3, none⟩)) rfl (Or.inl ⟨by rfl, fun W hW => ?_⟩) hHeld ?_
 ·clear hW
  go_simp
 try simp only [Act.put, a0, a1, a2, a3, a4, a5]
 refine wpT (i := 5) (v := .agg X) rfl (M8 (by rfl) _ _ rfl V2 rfl 43 X _ (fun W hW => hW) Tryz.underlying43 rfl HL.out.2) hHeld ?_
 try simp only [Act.put, a0, a1, a2, a3, a4, a5]
 refine wpR (rs := [4, 6]) (AllReadyH.cons rfl (fun K hK => ?_) (AllReadyH.cons rfl (fun K hK => ?_) AllReadyH.nil))
 ·go_simp
  refine hK.out _ _ HL.out.1 (fun hHeld => ?_)
  clear hK K
  try simp only [Act.put, a0, a1, a2, a3, a4, a5]
  refine wpR (rs := [6]) (AllReadyH.cons rfl (fun K hK => ?_) AllReadyH.nil)
  refine a5t (by rfl) 22 1 _ (by rfl) _ (by kernel_rfl) x.cells 43 HLN.out ?_
  intro ad w3 C3 K3
  have Q3 := HQ.out.1.keep (d3 (f9 w2 1 none) K3)
  have c3b : w3.cell? ⟨c.g, 3, none⟩ = some vt := Q3.blk.cell 3
  refine hK.out _ _ (HL.out.1.kept K3) (fun hHeld => ?_)
  clear hK K
  try simp only [Act.put, a0, a1, a2, a3, a4, a5]
  refine wpR (rs := [7]) (AllReadyH.cons rfl (fun K hK => ?_) AllReadyH.nil)
  refine a3y (by rfl) (.tmp 10) (.tmp 12) 22 (by rfl) 43 i0 _ 24 72 Tryz.underlying22 hi hz0 hz1 hz2 rfl (by decide) c.w0.heap.size vt (ns.map Prod.fst).length (a0K (ns.map Prod.fst)) (by rfl) Q3.tree ad 1 1 x.cells (by rfl) rfl C3 x.cells_one HB1.out.1.1 HB1.out.1.2 (Nat.le_trans HQ.out.1.grown.size K3.size) ?_
  intro v4 w4 O4 K4 B4
  have hV2v : ¬ vt.ownBlock = some V2 := fun e => by have := HQ.out.1.tree.lt V2 e; have := HP.out.tree.lt V2 e; have := HV.out; omega
  have VN4 := hHeld.grown K4 (fun e => hV2v e)
  have G4 := Q3.blk.grown K4 Q3.ne_tree
  have c3c : w4.cell? ⟨c.g, 3, none⟩ = some vt := G4.cell 3
  have f3c := G4.free 3
  obtain ⟨Z4, Z5, Z6⟩ := Q3.hs.put_tree (x := x) O4 K4 B4
  have L4 : w.grownBy w3 none := d3 HQ.out.2.2 (d3 (f9 w2 1 none) K3)
  have V14 := (HQ.out.2.1.kept (d3 (f9 w2 1 none) K3)).grown K4 (fun e => by have := HP.out.tree.lt V1 e; have := HV.out; omega)
  obtain ⟨a4, l4, k4, hv4⟩ := a2F O4
  subst hv4
  refine hK.out _ _ VN4 (fun hHeld => ?_)
  clear hK K
  try simp only [Act.put, a0, a1, a2, a3, a4, a5]
  refine wpT (i := 8) (v := .pointer (some ⟨c.g, 0, none⟩)) rfl (Or.inl ⟨by rfl, fun W hW => ?_⟩) hHeld ?_
  ·clear hW
   go_simp
  try simp only [Act.put, a0, a1, a2, a3, a4, a5]
  refine wpT (i := 9) (v := .pointer (some ⟨c.g, 3, none⟩)) rfl (Or.inl ⟨by rfl, fun W hW => ?_⟩) hHeld ?_
  ·clear hW
   go_simp
  try simp only [Act.put, a0, a1, a2, a3, a4, a5]
  refine wpR (rs := [10]) (AllReadyH.cons rfl (fun K hK => ?_) AllReadyH.nil)
  go_simp
  refine hK.out _ _ (VN4.setOther (k := c.g) (i := 3) (.slice a4 l4 k4) (fun e => by have := HP.out.blk.lt; have := HV.out; omega)) (fun hHeld => ?_)
  refine wpAnyH_done (by kernel_rfl) ?_ _
  have V15 := V14.grown (U4 w4 c.g 3 (.slice a4 l4 k4)) (fun e => by have e2 := Option.some.inj e; have := HP.out.blk.lt; have := HV.out; omega)
  have HZ : Hid (HS c (w4.setCell ⟨c.g, 3, none⟩ (.slice a4 l4 k4)) i (.slice a4 l4 k4) vp nest (ns.map Prod.fst ++ [x]) (ns.map plc) ∧ GB w (w4.setCell ⟨c.g, 3, none⟩ (.slice a4 l4 k4)) (d5 c.g vt vp) ∧ ∀ y, y < w.heap.size → d5 c.g (.slice a4 l4 k4) vp y → d5 c.g vt vp y) := ⟨Z4, (GB.non L4).trans Z5 (fun _ _ h => h), fun y hy => Z6 y (Nat.lt_of_lt_of_le hy L4.size)⟩
  clear hK K hHeld O4 K4 B4 C3 K3 hV2v VN4 G4 c3c f3c Q3 c3 c3b Z4 Z5 Z6 L4 V14 hi hz0 hz1 hz2 i0 HQ HL HLN HX
  go_wp2_with fail
  generalize w4.setCell ⟨c.g, 3, none⟩ (.slice a4 l4 k4) = w5 at *
  have p1 : w5.cell? ⟨V1, 1, none⟩ = some (.int .i64 (tp : Int)) := V15.cell 1
  have p4 : w5.cell? ⟨c.g, 4, none⟩ = some vp := HZ.out.1.blk.cell 4
  obtain ⟨i0, hi, hz0, hz1, hz2⟩ := info_parts a93
  clear V15
  have K6 : w5.grownBy (w5.drew.alloc (.cells #[.int .i64 (tp : Int)] 3)) none := d3 (f9 w5 1 none) (World.grownBy_alloc w5.drew (.cells #[.int .i64 (tp : Int)] 3) none)
  have HK6 : Hid (HS c (w5.drew.alloc (.cells #[.int .i64 (tp : Int)] 3)) i (.slice a4 l4 k4) vp nest (ns.map Prod.fst ++ [x]) (ns.map plc) ∧ CV (w5.drew.alloc (.cells #[.int .i64 (tp : Int)] 3)) (some ⟨w5.heap.size, 0, none⟩) [.int .i64 (tp : Int)] ∧ w5.grownBy (w5.drew.alloc (.cells #[.int .i64 (tp : Int)] 3)) none) := ⟨HZ.out.1.keep K6, s0 w5.drew _ _, K6⟩
  have p4b : (w5.alloc (.cells #[.int .i64 (tp : Int)] 3)).cell? ⟨c.g, 4, none⟩ = some vp := HK6.out.1.blk.cell 4
  clear K6
  go_region_law ((refine a3y rfl (.tmp 20) (.tmp 23) 33 rfl 3 i0 _ 1 8 Tryz.underlying33 hi hz0 hz1 hz2 rfl (by decide) c.w0.heap.size vp (ns.map plc).length ((ns.map plc).map iv) (by first | rfl | simp [Act.eval]) (by exact HK6.out.1.places) ⟨w5.heap.size, 0, none⟩ 1 1 [.int .i64 (tp : Int)] (by first | rfl | simp [Act.eval]) rfl (by exact HK6.out.2.1) (by simp [Value.oneCell']) HB1.out.2.1 HB1.out.2.2 (by exact HK6.out.1.grown.size) ?_; intro v7 w7 O7 K7' B7'; have K7 : (w5.drew.alloc (.cells #[.int .i64 (tp : Int)] 3)).grownBy w7 vp.ownBlock := K7'; have B7 : v7.ownBlock = vp.ownBlock ∨ v7.ownBlock = some (w5.drew.alloc (.cells #[.int .i64 (tp : Int)] 3)).heap.size := B7'; have A7 := a4B HK6.out.1.blk HK6.out.1.places (by decide) K7; have p4c : w7.cell? ⟨c.g, 4, none⟩ = some vp := A7.cell 4; have p4f := A7.free 4; obtain ⟨a7, l7, k7, hv7⟩ := a2F O7; subst hv7))
  all_goals (go_wp2; go_end0; exact ⟨rfl, a9Y HP.out HZ.out HK6.out.2.2 O7 K7 B7⟩)
 ·skip
  refine a5t (by rfl) 22 1 _ (by rfl) _ (by kernel_rfl) x.cells 43 HLN.out ?_
  intro ad w3 C3 K3
  have Q3 := HQ.out.1.keep (d3 (f9 w2 1 none) K3)
  have c3b : w3.cell? ⟨c.g, 3, none⟩ = some vt := Q3.blk.cell 3
  refine hK.out _ _ (HL.out.1.kept K3) (fun hHeld => ?_)
  clear hK K
  try simp only [Act.put, a0, a1, a2, a3, a4, a5]
  refine wpR (rs := [4]) (AllReadyH.cons rfl (fun K hK => ?_) AllReadyH.nil)
  go_simp
  refine hK.out _ _ (HL.out.1.kept K3) (fun hHeld => ?_)
  clear hK K
  try simp only [Act.put, a0, a1, a2, a3, a4, a5]
  refine wpR (rs := [7]) (AllReadyH.cons rfl (fun K hK => ?_) AllReadyH.nil)
  refine a3y (by rfl) (.tmp 10) (.tmp 12) 22 (by rfl) 43 i0 _ 24 72 Tryz.underlying22 hi hz0 hz1 hz2 rfl (by decide) c.w0.heap.size vt (ns.map Prod.fst).length (a0K (ns.map Prod.fst)) (by rfl) Q3.tree ad 1 1 x.cells (by rfl) rfl C3 x.cells_one HB1.out.1.1 HB1.out.1.2 (Nat.le_trans HQ.out.1.grown.size K3.size) ?_
  intro v4 w4 O4 K4 B4
  have hV2v : ¬ vt.ownBlock = some V2 := fun e => by have := HQ.out.1.tree.lt V2 e; have := HP.out.tree.lt V2 e; have := HV.out; omega
  have VN4 := hHeld.grown K4 (fun e => hV2v e)
  have G4 := Q3.blk.grown K4 Q3.ne_tree
  have c3c : w4.cell? ⟨c.g, 3, none⟩ = some vt := G4.cell 3
  have f3c := G4.free 3
  obtain ⟨Z4, Z5, Z6⟩ := Q3.hs.put_tree (x := x) O4 K4 B4
  have L4 : w.grownBy w3 none := d3 HQ.out.2.2 (d3 (f9 w2 1 none) K3)
  have V14 := (HQ.out.2.1.kept (d3 (f9 w2 1 none) K3)).grown K4 (fun e => by have := HP.out.tree.lt V1 e; have := HV.out; omega)
  obtain ⟨a4, l4, k4, hv4⟩ := a2F O4
  subst hv4
  refine hK.out _ _ VN4 (fun hHeld => ?_)
  clear hK K
  try simp only [Act.put, a0, a1, a2, a3, a4, a5]
  refine wpT (i := 8) (v := .pointer (some ⟨c.g, 0, none⟩)) rfl (Or.inl ⟨by rfl, fun W hW => ?_⟩) hHeld ?_
  ·clear hW
   go_simp
  try simp only [Act.put, a0, a1, a2, a3, a4, a5]
  refine wpT (i := 9) (v := .pointer (some ⟨c.g, 3, none⟩)) rfl (Or.inl ⟨by rfl, fun W hW => ?_⟩) hHeld ?_
  ·clear hW
   go_simp
  try simp only [Act.put, a0, a1, a2, a3, a4, a5]
  refine wpR (rs := [10]) (AllReadyH.cons rfl (fun K hK => ?_) AllReadyH.nil)
  go_simp
  refine hK.out _ _ (VN4.setOther (k := c.g) (i := 3) (.slice a4 l4 k4) (fun e => by have := HP.out.blk.lt; have := HV.out; omega)) (fun hHeld => ?_)
  refine wpAnyH_done (by kernel_rfl) ?_ _
  have V15 := V14.grown (U4 w4 c.g 3 (.slice a4 l4 k4)) (fun e => by have e2 := Option.some.inj e; have := HP.out.blk.lt; have := HV.out; omega)
  have HZ : Hid (HS c (w4.setCell ⟨c.g, 3, none⟩ (.slice a4 l4 k4)) i (.slice a4 l4 k4) vp nest (ns.map Prod.fst ++ [x]) (ns.map plc) ∧ GB w (w4.setCell ⟨c.g, 3, none⟩ (.slice a4 l4 k4)) (d5 c.g vt vp) ∧ ∀ y, y < w.heap.size → d5 c.g (.slice a4 l4 k4) vp y → d5 c.g vt vp y) := ⟨Z4, (GB.non L4).trans Z5 (fun _ _ h => h), fun y hy => Z6 y (Nat.lt_of_lt_of_le hy L4.size)⟩
  clear hK K hHeld O4 K4 B4 C3 K3 hV2v VN4 G4 c3c f3c Q3 c3 c3b Z4 Z5 Z6 L4 V14 hi hz0 hz1 hz2 i0 HQ HL HLN HX
  go_wp2_with fail
  generalize w4.setCell ⟨c.g, 3, none⟩ (.slice a4 l4 k4) = w5 at *
  have p1 : w5.cell? ⟨V1, 1, none⟩ = some (.int .i64 (tp : Int)) := V15.cell 1
  have p4 : w5.cell? ⟨c.g, 4, none⟩ = some vp := HZ.out.1.blk.cell 4
  obtain ⟨i0, hi, hz0, hz1, hz2⟩ := info_parts a93
  clear V15
  have K6 : w5.grownBy (w5.drew.alloc (.cells #[.int .i64 (tp : Int)] 3)) none := d3 (f9 w5 1 none) (World.grownBy_alloc w5.drew (.cells #[.int .i64 (tp : Int)] 3) none)
  have HK6 : Hid (HS c (w5.drew.alloc (.cells #[.int .i64 (tp : Int)] 3)) i (.slice a4 l4 k4) vp nest (ns.map Prod.fst ++ [x]) (ns.map plc) ∧ CV (w5.drew.alloc (.cells #[.int .i64 (tp : Int)] 3)) (some ⟨w5.heap.size, 0, none⟩) [.int .i64 (tp : Int)] ∧ w5.grownBy (w5.drew.alloc (.cells #[.int .i64 (tp : Int)] 3)) none) := ⟨HZ.out.1.keep K6, s0 w5.drew _ _, K6⟩
  have p4b : (w5.alloc (.cells #[.int .i64 (tp : Int)] 3)).cell? ⟨c.g, 4, none⟩ = some vp := HK6.out.1.blk.cell 4
  clear K6
  go_region_law ((refine a3y rfl (.tmp 20) (.tmp 23) 33 rfl 3 i0 _ 1 8 Tryz.underlying33 hi hz0 hz1 hz2 rfl (by decide) c.w0.heap.size vp (ns.map plc).length ((ns.map plc).map iv) (by first | rfl | simp [Act.eval]) (by exact HK6.out.1.places) ⟨w5.heap.size, 0, none⟩ 1 1 [.int .i64 (tp : Int)] (by first | rfl | simp [Act.eval]) rfl (by exact HK6.out.2.1) (by simp [Value.oneCell']) HB1.out.2.1 HB1.out.2.2 (by exact HK6.out.1.grown.size) ?_; intro v7 w7 O7 K7' B7'; have K7 : (w5.drew.alloc (.cells #[.int .i64 (tp : Int)] 3)).grownBy w7 vp.ownBlock := K7'; have B7 : v7.ownBlock = vp.ownBlock ∨ v7.ownBlock = some (w5.drew.alloc (.cells #[.int .i64 (tp : Int)] 3)).heap.size := B7'; have A7 := a4B HK6.out.1.blk HK6.out.1.places (by decide) K7; have p4c : w7.cell? ⟨c.g, 4, none⟩ = some vp := A7.cell 4; have p4f := A7.free 4; obtain ⟨a7, l7, k7, hv7⟩ := a2F O7; subst hv7))
  all_goals (go_wp2; go_end0; exact ⟨rfl, a9Y HP.out HZ.out HK6.out.2.2 O7 K7 B7⟩)

end
def a1b {α : Type} (c : PC) (w : World) (vt vp : Value) (E : Nat → Prop) (nest bud : Nat) (ns : List (Nd × Nat)) (val : α → Value) (more : α → List (Nd × Nat)) (X : α → World → Prop) (r : Except Er (α × List Tk)) (e : Ending) (w' : World) : Prop := match r with
 | .ok (v, ts') => e = .returned (val v) ∧ X v w' ∧ ∃ i' vt' vp', PS c w' i' vt' vp' ts' nest bud (ns ++ more v) ∧ GB w w' (fun x => d5 c.g vt vp x ∨ E x) ∧ ∀ x, x < w.heap.size → d5 c.g vt' vp' x → d5 c.g vt vp x
 | .error er => e = .panicked (a0e er) ∧ GB w w' (fun x => d5 c.g vt vp x ∨ E x)
theorem a1b.of_run {c : PC} {w : World} {vt vp : Value} {nest bud : Nat} {ns : List (Nd × Nat)} {r : Out} {e : Ending} {w' : World} (h : o8 c w vt vp nest bud ns r e w') : a1b c w vt vp (fun _ => False) nest bud ns (fun _ => .tuple #[]) id (fun _ _ => True) r e w' := by
 cases r with
 | error er => exact ⟨h.1, h.2.mono (fun x hx => .inl hx)⟩
 | ok v =>
  obtain ⟨ms, ts'⟩ := v
  obtain ⟨h1, i', vt', vp', h2, h3, h4⟩ := h
  exact ⟨h1, trivial, i', vt', vp', h2, h3.mono (fun x hx => .inl hx), h4⟩
def ah0 (c : PC) (w : World) (vt vp : Value) (nest bud : Nat) (ns : List (Nd × Nat)) (val : List (Nd × Nat) → Value) (r : Out) (e : Ending) (w' : World) : Prop := match r with
 | .ok (ms, ts') => e = .returned (val ms) ∧ Ret c w vt vp ts' nest bud (ns ++ ms) w'
 | .error er => e = .panicked (a0e er) ∧ GB w w' (d5 c.g vt vp)
theorem a1b.back {c : PC} {w : World} {vt vp : Value} {nest bud : Nat} {ns : List (Nd × Nat)} {r : Out} {e : Ending} {w' : World} {val : List (Nd × Nat) → Value} {X : List (Nd × Nat) → World → Prop} (h : a1b c w vt vp (fun _ => False) nest bud ns val id X r e w') : ah0 c w vt vp nest bud ns val r e w' := by
 cases r with
 | error er => exact ⟨h.1, h.2.mono (fun x hx => hx.elim id (fun h => h.elim))⟩
 | ok v =>
  obtain ⟨ms, ts'⟩ := v
  obtain ⟨h1, -, i', vt', vp', h2, h3, h4⟩ := h
  exact ⟨h1, i', vt', vp', h2, h3.mono (fun x hx => hx.elim id (fun h => h.elim)), h4⟩

section
variable {c : PC} {w : World} {i nest bud : Nat} {vt vp : Value} {ts : List Tk} {ns : List (Nd × Nat)}
theorem PS.nestTo (h : PS c w i vt vp ts nest bud ns) {m : Nat} (hm : m ≤ 200) : PS c (w.setCell ⟨c.g, 2, none⟩ (.int .i64 (m : Int))) i vt vp ts m bud ns := h.store 2 _ rfl h.drop h.good hm h.bud_le
theorem a6I {α : Type} (h : PS c w i vt vp ts nest bud ns) (hk : (hdT ts).kind ≠ 0) (n : Nat) (bs lb : Array Value) (hent : ∀ args w, (callFunc n args).run Tryz.prog w = .ok (.enter n args) w) (E : Nat → Prop) (more : α → List (Nd × Nat)) (X : α → World → Prop) (r : Except Er (α × List Tk))
  (hE : ∀ x, E x → x < w.heap.size) (hX : ∀ v W W', X v W → GB W W' (fun x => x = c.g ∨ w.heap.size ≤ x) → X v W')
  (hin : ∀ W i1 vt1 vp1, GB w W (d5 c.g vt vp) → (∀ x, x < w.heap.size → d5 c.g vt1 vp1 x → d5 c.g vt vp x) → PS c W i1 vt1 vp1 ts.tail (nest + 1) (bud + 1) ns → Calls Tryz.prog n (bs ++ lb) W (a1b c W vt1 vp1 E (nest + 1) (bud + 1) ns (fun _ => .tuple #[]) more X r)) :
  Calls Tryz.prog 174 #[.pointer (some ⟨c.g, 0, none⟩), .func (.func n) bs lb] w (a1b c w vt vp E nest (bud + 1) ns (fun _ => .agg (tkC (hdT ts))) more X (B5 nest ts r)) := by
 have hn := h.nest_le
 have G := World.grownBy_alloc w (.cells #[.int .i64 0, .int .i64 0, .string ⟨#[]⟩, .int .u32 0] 99) none
 have RA := VAt.alloc w 99 #[.int .i64 0, .int .i64 0, .string ⟨#[]⟩, .int .u32 0]
 have H1 := h.keep G
 have HP : Hid (PS c w i vt vp ts nest bud ns) := h
 have HIN : Hid (∀ W i1 vt1 vp1, GB w W (d5 c.g vt vp) → (∀ x, x < w.heap.size → d5 c.g vt1 vp1 x → d5 c.g vt vp x) → PS c W i1 vt1 vp1 ts.tail (nest + 1) (bud + 1) ns → Calls Tryz.prog n (bs ++ lb) W (a1b c W vt1 vp1 E (nest + 1) (bud + 1) ns (fun _ => .tuple #[]) more X r)) := hin
 have HX : Hid (∀ v W W', X v W → GB W W' (fun x => x = c.g ∨ w.heap.size ≤ x) → X v W') := hX
 have HK : Hid ((hdT ts).kind ≠ 0) := hk
 have HE : Hid (∀ x, E x → x < w.heap.size) := hE
 clear hin hX hk hE
 by_cases hd : nest = 200
 ·unfold B5
  rw [if_pos hd]
  have hd' : (200 : Int) ≤ (nest : Int) := by omega
  clear hd HIN HX h
  go_enter Tryz.func174, Tryz.ntmps174
  go_upto_region 1 with fail
  generalize w.alloc (.cells #[.int .i64 0, .int .i64 0, .string ⟨#[]⟩, .int .u32 0] 99) = W at *
  generalize w.heap.size = R at *
  have c2 : W.cell? ⟨c.g, 2, none⟩ = some (.int .i64 (nest : Int)) := H1.blk.cell 2
  go_wp2_with fail
  refine (a4L H1 _).mono ?_
  rintro e w1 ⟨rfl, G1⟩
  go_wp2
  exact ⟨rfl, rfl, GB.non (d3 G G1)⟩
 ·have e0 : B5 nest ts r = r := by rw [B5, if_neg hd]
  rw [e0]
  go_enter Tryz.func174, Tryz.ntmps174
  go_upto_region 1 with fail
  generalize w.alloc (.cells #[.int .i64 0, .int .i64 0, .string ⟨#[]⟩, .int .u32 0] 99) = W at *
  obtain ⟨R, hR⟩ : ∃ R, w.heap.size = R := ⟨_, rfl⟩
  have HRW : Hid (R < W.heap.size) := by show R < W.heap.size; rw [← hR]; exact RA.lt
  rw [hR] at RA ⊢
  have HR2 : Hid (w.heap.size ≤ R) := Nat.le_of_eq hR
  clear h hR
  have c2 : W.cell? ⟨c.g, 2, none⟩ = some (.int .i64 (nest : Int)) := H1.blk.cell 2
  have f2 := H1.blk.free 2
  have hd' : ¬ (200 : Int) ≤ (nest : Int) := by omega
  have hw : IntKind.i64.wrap ((nest : Int) + 1) = ((nest + 1 : Nat) : Int) := by rw [IntKind.wrap_i64]; omega
  have H2 : PS c (W.setCell ⟨c.g, 2, none⟩ (.int .i64 ((nest : Int) + 1))) i vt vp ts (nest + 1) bud ns := H1.nestTo (m := nest + 1) (by omega)
  have RA2 := RA.grown (U4 W c.g 2 (.int .i64 ((nest : Int) + 1))) (fun e => by have := Option.some.inj e; have := HP.out.blk.lt; have := HR2.out; omega)
  have G2 : GB w (W.setCell ⟨c.g, 2, none⟩ (.int .i64 ((nest : Int) + 1))) (d5 c.g vt vp) := (GB.non G).trans (GB.set W vt vp c.g 2 _) (fun _ _ h => h)
  have HRW2 : Hid (R < (W.setCell ⟨c.g, 2, none⟩ (.int .i64 ((nest : Int) + 1))).heap.size) := Nat.lt_of_lt_of_le HRW.out (U4 W c.g 2 (.int .i64 ((nest : Int) + 1))).size
  clear e0 hd H1 RA HRW G
  go_upto_region 4 with fail
  generalize W.setCell ⟨c.g, 2, none⟩ (.int .i64 ((nest : Int) + 1)) = w2 at *
  clear c2 f2 hd' hw
  go_wp2_with fail
  refine (T6 H2 HK.out).mono ?_
  rintro e w3 ⟨rfl, i3, vt3, vp3, H3, G3, F3⟩
  have RA3 := G3.vat RA2 (HP.out.not_foot HR2.out)
  have L2 := G2.size
  have G4 := G2.trans G3 (fun _ _ h => h)
  have F4 : ∀ x, x < w.heap.size → d5 c.g vt3 vp3 x → d5 c.g vt vp x := fun x hx => F3 x (Nat.lt_of_lt_of_le hx L2)
  have HF3 : Hid (¬ d5 c.g vt3 vp3 R) := fun e => HP.out.not_foot HR2.out (F3 R HRW2.out e)
  have HRW3 : Hid (R < w3.heap.size) := Nat.lt_of_lt_of_le HRW2.out G3.size
  clear H2 RA2 G2 HRW2 G3 F3 L2
  unfold tkC
  obtain ⟨t, ht⟩ : ∃ t, hdT ts = t := ⟨_, rfl⟩
  have HT : Hid (hdT ts = t) := ht
  rw [ht]
  clear ht
  obtain ⟨tk, tp, tx, tn⟩ := t
  simp only
  have KA := World.grownBy_alloc w3 (.cells #[.int .i64 (tk : Int), .int .i64 (tp : Int), str tx, .int .u32 (tn : Int)] 99) none
  have VA := VAt.alloc w3 99 #[.int .i64 (tk : Int), .int .i64 (tp : Int), str tx, .int .u32 (tn : Int)]
  have H4 := H3.keep KA
  have RA4 := RA3.kept KA
  have G5 := G4.trans (GB.non (S := d5 c.g vt vp) KA) (fun _ _ h => h)
  have HV : Hid (w.heap.size ≤ w3.heap.size ∧ ¬ d5 c.g vt3 vp3 w3.heap.size ∧ w3.heap.size < (w3.alloc (.cells #[.int .i64 (tk : Int), .int .i64 (tp : Int), str tx, .int .u32 (tn : Int)] 99)).heap.size ∧ R < (w3.alloc (.cells #[.int .i64 (tk : Int), .int .i64 (tp : Int), str tx, .int .u32 (tn : Int)] 99)).heap.size) := ⟨G4.size, H3.not_foot (Nat.le_refl _), VA.lt, RA4.lt⟩
  clear H3 RA3 G4 HRW3
  go_upto_region 5 with fail
  generalize w3.alloc (.cells #[.int .i64 (tk : Int), .int .i64 (tp : Int), .string ⟨tx.toArray⟩, .int .u32 (tn : Int)] 99) = w4 at *
  generalize w3.heap.size = V at *
  clear KA
  have CI := HIN.out w4 i3 vt3 vp3 G5 F4 H4
  clear HIN
  go_wp2_with fail
  refine CI.mono ?_
  clear CI
  have HG5 : Hid (GB w w4 (d5 c.g vt vp)) := G5
  have HF4 : Hid (∀ x, x < w.heap.size → d5 c.g vt3 vp3 x → d5 c.g vt vp x) := F4
  have HH4 : Hid (PS c w4 i3 vt3 vp3 ts.tail (nest + 1) (bud + 1) ns) := H4
  clear G5 F4 H4
  cases r with
  | error er =>
   rintro e w5 ⟨rfl, G6⟩
   go_wp2
   exact ⟨rfl, rfl, (HG5.out.mono (fun x hx => Or.inl hx)).trans G6 (fun x hx h => h.elim (fun h => .inl (HF4.out x hx h)) .inr)⟩
  | ok v =>
   obtain ⟨v, ts'⟩ := v
   rintro e w5 ⟨rfl, X5, i5, vt5, vp5, H5, G6, F6⟩
   have RA5 := G6.vat RA4 (fun h => h.elim HF3.out (fun h => by have := HE.out _ h; have := HR2.out; omega))
   have VA5 := G6.vat VA (fun h => h.elim HV.out.2.1 (fun h => by have := HE.out _ h; have := HV.out.1; omega))
   have HF5 : Hid (¬ d5 c.g vt5 vp5 R) := fun e => HF3.out (F6 R HV.out.2.2.2 e)
   have G7 : GB w w5 (fun x => d5 c.g vt vp x ∨ E x) := (HG5.out.mono (fun x hx => Or.inl hx)).trans G6 (fun x hx h => h.elim (fun h => .inl (HF4.out x hx h)) .inr)
   have F7 : ∀ x, x < w.heap.size → d5 c.g vt5 vp5 x → d5 c.g vt vp x := fun x hx h => HF4.out x hx (F6 x (Nat.lt_of_lt_of_le hx HG5.out.size) h)
   have c2 : w5.cell? ⟨c.g, 2, none⟩ = some (.int .i64 ((nest + 1 : Nat) : Int)) := H5.blk.cell 2
   have f2 := H5.blk.free 2
   have hw : IntKind.i64.wrap (((nest + 1 : Nat) : Int) - 1) = (nest : Int) := by rw [IntKind.wrap_i64]; omega
   have hw2 : ((nest + 1 : Nat) : Int) - 1 = (nest : Int) := by omega
   have H6 := H5.nestTo (m := nest) hn
   have hgR : R ≠ c.g := fun e => by have := HP.out.blk.lt; have := HR2.out; omega
   have hgV : V ≠ c.g := fun e => by have := HP.out.blk.lt; have := HV.out.1; omega
   have K6 := U4 w5 c.g 2 (.int .i64 (nest : Int))
   have RA6 := RA5.grown K6 (fun e => hgR (Option.some.inj e).symm)
   have VA6 := VA5.grown K6 (fun e => hgV (Option.some.inj e).symm)
   have HQ : Hid (PS c (w5.setCell ⟨c.g, 2, none⟩ (.int .i64 (nest : Int))) i5 vt5 vp5 ts' nest (bud + 1) (ns ++ more v) ∧ X v w5 ∧ GB w w5 (fun x => d5 c.g vt vp x ∨ E x) ∧ (∀ x, x < w.heap.size → d5 c.g vt5 vp5 x → d5 c.g vt vp x) ∧ w5.grownBy (w5.setCell ⟨c.g, 2, none⟩ (.int .i64 (nest : Int))) (some c.g)) := ⟨H6, X5, G7, F7, K6⟩
   clear HG5 HF4 HH4 X5 H5 G6 F6 RA4 VA RA5 VA5 G7 F7 H6 K6
   go_upto_region 7 with fail
   generalize w5.setCell ⟨c.g, 2, none⟩ (.int .i64 (nest : Int)) = w6 at *
   go_wp2_with (first
    | refine wpList_load_row rfl 99 (.tmp 5) rfl V rfl 99 _ (0, 0) _ VA6 Tryz.underlying99 rfl M6 ?_
    | refine wpList_store_row rfl 99 (.tmp 4) (.tmp 35) rfl R (tkC ⟨tk, tp, tx, tn⟩) rfl rfl 99 _ RA6 M6 rfl (ae9 _) ?_)
   refine bodyPost_ret (a2d rfl _ _ R _ _ rfl (RA6.setRow _) Tryz.underlying99 rfl M6) rfl ?_
   obtain ⟨H6, X5, G7, F7, K6⟩ := HQ.out
   have K7 := D7 (World.grownBy.refl w6 (some R)) R (tkC ⟨tk, tp, tx, tn⟩) (.inl rfl)
   have K8 : GB w5 (w6.setRow R (tkC ⟨tk, tp, tx, tn⟩)) (fun x => x = c.g ∨ w.heap.size ≤ x) := (GB.of K6 (S := fun x => x = c.g ∨ w.heap.size ≤ x) (fun x hx => by cases hx; exact .inl rfl)).trans (GB.of K7 (S := fun x => x = c.g ∨ w.heap.size ≤ x) (fun x hx => by cases hx; exact .inr HR2.out)) (fun _ _ h => h)
   refine ⟨by rw [HT.out], HX.out v _ _ X5 K8, i5, vt5, vp5, H6.away K7 HF5.out (fun e => by have := HP.out.toks_lt e; have := HR2.out; omega) (Nat.le_trans HP.out.grown.size HR2.out), ?_, F7⟩
   exact G7.trans K8 (fun x hx h => by
    rcases h with rfl | h
    ·exact .inl (.inl rfl)
    ·omega)

end
abbrev Op3 := List UInt8 × Nat × Nat
def Op3.nd (o : Op3) : Nd := { ndK o.2.1 with op := o.2.2 }
def o3 (o : Op3) : List Value := [str o.1, .int .i64 (o.2.1 : Int), .int .i64 (o.2.2 : Int)]
def V9 (os : List Op3) : List Value := os.flatMap o3
theorem au1 (os : List Op3) : (V9 os).length = os.length * 3 := by
 induction os with
 | nil => rfl
 | cons x xs ih => simp only [V9, List.flatMap_cons, List.length_append, List.length_cons] at *; rw [ih]; simp [o3]; omega
theorem au0 (os : List Op3) (i j : Nat) (hi : i < os.length) (hj : j < 3) : (V9 os)[i * 3 + j]? = (o3 os[i])[j]? := by
 induction os generalizing i with
 | nil => simp at hi
 | cons x xs ih =>
  have e : V9 (x :: xs) = o3 x ++ V9 xs := rfl
  rw [e]
  have hl : (o3 x).length = 3 := rfl
  cases i with
  | zero => rw [List.getElem?_append_left (by omega)]; simp
  | succ i =>
   rw [List.getElem?_append_right (by omega), hl, show (i + 1) * 3 + j - 3 = i * 3 + j by omega, ih i (by simpa using hi)]
   simp
theorem CV.opers {w : World} {ao : Option Addr} {os : List Op3} (h : CV w ao (V9 os)) {k : Nat} (hk : k < os.length) :
  ∃ b off, ao = some ⟨b, off, none⟩ ∧ w.cell? ⟨b, off + k * 3, none⟩ = some (str os[k].1) ∧ w.cell? ⟨b, off + k * 3 + 1, none⟩ = some (.int .i64 (os[k].2.1 : Int)) ∧ w.cell? ⟨b, off + k * 3 + 2, none⟩ = some (.int .i64 (os[k].2.2 : Int)) := by
 have hl := au1 os
 obtain ⟨b, off, hao, hc⟩ := h.addr (k := k * 3) (by omega)
 have key : ∀ j (hj : j < 3), w.cell? ⟨b, off + k * 3 + j, none⟩ = (o3 os[k])[j]? := fun j hj => by
  rw [← au0 os k j hk hj, Nat.add_assoc, hc (k * 3 + j) (by omega), List.getElem?_eq_getElem (by omega)]
 exact ⟨b, off, hao, key 0 (by omega), key 1 (by omega), key 2 (by omega)⟩
def I9 (os : List Op3) (x : List UInt8) : Option Nd := (os.find? fun o => decide (o.1 = x)).map Op3.nd
theorem at1 {os : List Op3} {x : List UInt8} {k : Nat} (hk : k < os.length) (hx : os[k].1 = x) (hn : ∀ j (hj : j < os.length), j < k → os[j].1 ≠ x) : I9 os x = some os[k].nd := by
 unfold I9
 have : os.find? (fun o => decide (o.1 = x)) = some os[k] := by
  rw [List.find?_eq_some_iff_getElem]
  refine ⟨by simpa using hx, k, hk, rfl, fun j hj => ?_⟩
  have := hn j (by omega) hj
  simpa using this
 rw [this]
 rfl
theorem a8z {os : List Op3} {x : List UInt8} (hn : ∀ j (hj : j < os.length), os[j].1 ≠ x) : I9 os x = none := by
 unfold I9
 have : os.find? (fun o => decide (o.1 = x)) = none := by
  rw [List.find?_eq_none]
  intro o ho
  obtain ⟨j, hj, rfl⟩ := List.getElem_of_mem ho
  simpa using hn j hj
 rw [this]
 rfl
theorem a9D (x : List UInt8) (k o : Nat) : (Op3.nd (x, k, o)).cells = [.int .i64 (k : Int), .int .i64 (o : Int), .int .u32 0, .int .u32 0, .int .i64 0, .int .i64 0, .int .i64 0, .int .u8 0, .int .u8 0, .int .u8 0, .int .u8 0, .int .u8 0, .int .u8 0, .int .u8 0, .int .u8 0, .int .u8 0, .int .u8 0, .int .u8 0, .int .u8 0, .int .u8 0, .int .u8 0, .int .u8 0, .int .u8 0, .int .i64 0] := by kernel_rfl
def a7y (c : PC) (w : World) (vt vp : Value) (nest bud : Nat) (ns : List (Nd × Nat)) (p : Nat) (f : Option Nd) (r : Out) (e : Ending) (w' : World) : Prop := match f with
 | none => e = .returned (.bool false) ∧ w.grownBy w' none
 | some nd => match r with
  | .ok (ms, ts') => e = .returned (.bool true) ∧ Ret c w vt vp ts' nest bud (ns ++ ms ++ [(nd, p)]) w'
  | .error er => e = .panicked (a0e er) ∧ GB w w' (d5 c.g vt vp)

section
variable {c : PC} {w : World} {i nest bud : Nat} {vt vp : Value} {ts : List Tk} {ns : List (Nd × Nat)}
theorem a6k (h : PS c w i vt vp ts nest bud ns) (n : Nat) (bs lb : Array Value) (hent : ∀ args w, (callFunc n args).run Tryz.prog w = .ok (.enter n args) w) (rec : Nat → List Tk → Out)
  (hin : ∀ (W : World) (i : Nat) (vt vp : Value) (ts : List Tk) (nest bud : Nat) (ns : List (Nd × Nat)), PS c W i vt vp ts nest bud ns → rec nest ts ≠ .error exP → Calls Tryz.prog n (bs ++ lb) W (o8 c W vt vp nest bud ns (rec nest ts)))
  (a : Option Addr) (ca : Nat) (os : List Op3) (ha : CV w a (V9 os)) (hos : ∀ o ∈ os, R0 o.1) (hm : os.length ≤ 1000) (hr : I9 os (hdT ts).text ≠ none → rec nest ts.tail ≠ .error exP) :
  Calls Tryz.prog 123 #[.pointer (some ⟨c.g, 0, none⟩), .func (.func n) bs lb, .slice a os.length ca] w (a7y c w vt vp nest bud ns (hdT ts).pos (I9 os (hdT ts).text) (rec nest ts.tail)) := by
 have HP : Hid (PS c w i vt vp ts nest bud ns) := h
 have HA : Hid (CV w a (V9 os)) := ha
 have HIN : Hid (∀ (W : World) (i : Nat) (vt vp : Value) (ts : List Tk) (nest bud : Nat) (ns : List (Nd × Nat)), PS c W i vt vp ts nest bud ns → rec nest ts ≠ .error exP → Calls Tryz.prog n (bs ++ lb) W (o8 c W vt vp nest bud ns (rec nest ts))) := hin
 have HR : Hid (I9 os (hdT ts).text ≠ none → rec nest ts.tail ≠ .error exP) := hr
 have HOS : Hid (∀ o ∈ os, R0 o.1) := hos
 obtain ⟨fo, hfo⟩ : ∃ f, I9 os (hdT ts).text = f := ⟨_, rfl⟩
 have HFO : Hid (I9 os (hdT ts).text = fo) := hfo
 rw [hfo]
 obtain ⟨rr, hrr⟩ : ∃ r, rec nest ts.tail = r := ⟨_, rfl⟩
 have HRR : Hid (rec nest ts.tail = rr) := hrr
 rw [hrr]
 obtain ⟨pp, hpp⟩ : ∃ p, (hdT ts).pos = p := ⟨_, rfl⟩
 have HPP : Hid ((hdT ts).pos = pp) := hpp
 rw [hpp]
 clear h ha hin hr hos hfo hrr hpp
 go_enter Tryz.func123, Tryz.ntmps123
 go_wp2
 go_loopw [12] (fun j wr => ∃ k : Nat, k ≤ os.length ∧ j = .int .i64 k ∧ Hid (∀ j (hj : j < os.length), j < k → os[j].1 ≠ (hdT ts).text) ∧ w.grownBy wr none) (fun j _ => os.length - (intOf j).toNat)
 case atStart => exact ⟨0, Nat.zero_le _, rfl, fun j _ hj => by omega, World.grownBy.refl _ _⟩
 case round =>
  obtain ⟨k, hk, rfl, HI, G⟩ := hrel
  by_cases hlt : k < os.length
  ·obtain ⟨b, o, rfl, c0, c1, c2⟩ := (HA.out.keptNone G).opers hlt
   have hl : (k : Int) < (os.length : Int) := by omega
   have HASK : Hid (R0 os[k].1) := HOS.out _ (List.getElem_mem hlt)
   have HHIT : Hid (os[k].1 = (hdT ts).text → fo = some os[k].nd) := fun e => by rw [← HFO.out]; exact at1 hlt e HI.out
   have HMISS : Hid (os[k].1 ≠ (hdT ts).text → ∀ j (hj : j < os.length), j < k + 1 → os[j].1 ≠ (hdT ts).text) := fun e j hj hj2 => by
    by_cases e2 : j = k
    ·subst e2; exact e
    ·exact HI.out j hj (by omega)
   clear HI
   generalize os[k] = ok at *
   obtain ⟨ox, ok, oo⟩ := ok
   simp only at *
   have KA := World.grownBy_alloc wr (.cells #[str ox, .int .i64 (ok : Int), .int .i64 (oo : Int)] 105) none
   have VA := VAt.alloc wr 105 #[str ox, .int .i64 (ok : Int), .int .i64 (oo : Int)]
   have G1 := d3 G KA
   have HV : Hid (w.heap.size ≤ wr.heap.size) := G.size
   go_upto_region 4 with fail
   generalize wr.alloc (.cells #[.string ⟨ox.toArray⟩, .int .i64 (ok : Int), .int .i64 (oo : Int)] 105) = w1 at *
   generalize wr.heap.size = V at *
   have HCS : Hid (∀ W ad, w1.grownBy W none → CV W (some ad) [str ox] → Calls Tryz.prog 150 #[.pointer (some ⟨c.g, 0, none⟩), .slice (some ad) 1 1] W fun e w' => e = .returned (.bool (decide (ox = (hdT ts).text))) ∧ W.grownBy w' none) := fun W ad GW hW => by
    have := a2j (HP.out.keep (d3 G1 GW)) (some ad) 1 [ox] hW (by simp)
    rw [show decide ((hdT ts).text ∈ [ox]) = decide (ox = (hdT ts).text) by simp [eq_comm]] at this
    exact this
   have o0 : w1.cell? ⟨V, 0, none⟩ = some (str ox) := VA.cell 0
   have HG1 : Hid (w.grownBy w1 none) := G1
   have HVA : Hid (VAt w1 V 105 #[str ox, .int .i64 (ok : Int), .int .i64 (oo : Int)]) := VA
   clear G KA c0 c1 c2 G1 VA HA
   by_cases he : ox = (hdT ts).text
   ·have HN : Hid (fo = some (Op3.nd (ox, ok, oo)) ∧ rec nest ts.tail ≠ .error exP ∧ (hdT ts).kind ≠ 0) := by
     have e1 := HHIT.out he
     refine ⟨e1, HR.out (by rw [HFO.out, e1]; simp), ?_⟩
     exact a3b (x := ox) (by rw [a11 HP.out.good.hd HASK.out]; simpa using he.symm)
    rw [decide_eq_true he] at HCS
    clear he HHIT HMISS
    go_region_law ((go_simp; go_at_call 150; refine (HCS.out _ ⟨w1.heap.size, 0, none⟩ (by exact d3 (f9 w1 1 none) (World.grownBy_alloc w1.drew _ none)) (by exact s0 w1.drew _ _)).mono ?_; rintro e w2 ⟨rfl, G2'⟩; have G2 : w1.grownBy w2 none := d3 (d3 (f9 w1 1 none) (World.grownBy_alloc w1.drew (.cells #[str ox] 9) none)) G2'))
    have G3 := d3 HG1.out G2
    have P2 := HP.out.keep G3
    have VA2 := HVA.out.kept G2
    clear G2 G2' HG1 HVA HCS o0
    go_wp2_with fail
    refine (T6 P2 HN.out.2.2).mono ?_
    rintro e w3 ⟨rfl, i3, vt3, vp3, H3, G4, F4⟩
    have VA3 := G4.vat VA2 (HP.out.not_foot HV.out)
    have HF3 : Hid (¬ d5 c.g vt3 vp3 V) := fun e => HP.out.not_foot HV.out (F4 V VA2.lt e)
    have G5 : GB w w3 (d5 c.g vt vp) := (GB.non G3).trans G4 (fun _ _ h => h)
    have F5 : ∀ x, x < w.heap.size → d5 c.g vt3 vp3 x → d5 c.g vt vp x := fun x hx => F4 x (Nat.lt_of_lt_of_le hx G3.size)
    clear P2 VA2 G4 F4 G3
    unfold tkC
    obtain ⟨t, ht⟩ : ∃ t, hdT ts = t := ⟨_, rfl⟩
    have HT : Hid (hdT ts = t) := ht
    rw [ht]
    clear ht
    obtain ⟨tk, tp, tx, tn⟩ := t
    simp only
    have KA := World.grownBy_alloc w3 (.cells #[.int .i64 (tk : Int), .int .i64 (tp : Int), str tx, .int .u32 (tn : Int)] 99) none
    have VM := VAt.alloc w3 99 #[.int .i64 (tk : Int), .int .i64 (tp : Int), str tx, .int .u32 (tn : Int)]
    have H4 := H3.keep KA
    have VA4 := VA3.kept KA
    have G6 := G5.trans (GB.non (S := d5 c.g vt vp) KA) (fun _ _ h => h)
    have HM : Hid (¬ d5 c.g vt3 vp3 w3.heap.size) := H3.not_foot (Nat.le_refl _)
    clear H3 VA3 G5
    go_upto_region 6 with fail
    generalize w3.alloc (.cells #[.int .i64 (tk : Int), .int .i64 (tp : Int), .string ⟨tx.toArray⟩, .int .u32 (tn : Int)] 99) = w4 at *
    generalize w3.heap.size = M at *
    have CI := HIN.out w4 i3 vt3 vp3 ts.tail nest (bud + 1) ns H4 HN.out.2.1
    rw [HRR.out] at CI
    have HG6 : Hid (GB w w4 (d5 c.g vt vp) ∧ ∀ x, x < w.heap.size → d5 c.g vt3 vp3 x → d5 c.g vt vp x) := ⟨G6, F5⟩
    clear HIN KA G6 F5 H4
    go_wp2_with fail
    refine CI.mono ?_
    clear CI
    cases rr with
    | error er =>
     rintro e w5 ⟨rfl, G7⟩
     go_wp2
     refine ⟨rfl, ?_⟩
     rw [HN.out.1]
     exact ⟨rfl, HG6.out.1.trans G7 HG6.out.2⟩
    | ok v =>
     obtain ⟨ms, ts'⟩ := v
     rintro e w5 ⟨rfl, i5, vt5, vp5, H5, G7, F7⟩
     have VM5 := G7.vat VM HM.out
     have VA5 := G7.vat VA4 HF3.out
     have G8 := HG6.out.1.trans G7 HG6.out.2
     have F8 : ∀ x, x < w.heap.size → d5 c.g vt5 vp5 x → d5 c.g vt vp x := fun x hx h => HG6.out.2 x hx (F7 x (Nat.lt_of_lt_of_le hx HG6.out.1.size) h)
     have HG8 : Hid (GB w w5 (d5 c.g vt vp) ∧ ∀ x, x < w.heap.size → d5 c.g vt5 vp5 x → d5 c.g vt vp x) := ⟨G8, F8⟩
     have o1 : w5.cell? ⟨V, 1, none⟩ = some (.int .i64 (ok : Int)) := VA5.cell 1
     have o2 : w5.cell? ⟨V, 2, none⟩ = some (.int .i64 (oo : Int)) := VA5.cell 2
     have CP := P8 H5 ⟨tk, tp, tx, tn⟩ (Op3.nd (ox, ok, oo))
     rw [a9D] at CP
     unfold tkC at CP
     clear HG6 H5 G7 F7 VM VA4 VA5 G8 F8
     go_wp2_with (refine wpList_load_row rfl 99 (.tmp 9) rfl M rfl 99 _ (0, 0) _ VM5 Tryz.underlying99 rfl M6 ?_)
     refine CP.mono ?_
     rintro e w6 ⟨rfl, R6⟩
     clear CP
     go_wp2
     go_ret
     rw [HN.out.1]
     refine ⟨rfl, ?_⟩
     have e3 : pp = tp := by rw [← HPP.out, HT.out]
     rw [e3]
     exact Ret.of HG8.out.1 HG8.out.2 R6
   ·have HN : Hid (∀ j (hj : j < os.length), j < k + 1 → os[j].1 ≠ (hdT ts).text) := HMISS.out he
    rw [decide_eq_false he] at HCS
    clear he HHIT HMISS
    go_region_law ((go_simp; go_at_call 150; refine (HCS.out _ ⟨w1.heap.size, 0, none⟩ (by exact d3 (f9 w1 1 none) (World.grownBy_alloc w1.drew _ none)) (by exact s0 w1.drew _ _)).mono ?_; rintro e w2 ⟨rfl, G2'⟩; have G2 : w1.grownBy w2 none := d3 (d3 (f9 w1 1 none) (World.grownBy_alloc w1.drew (.cells #[str ox] 9) none)) G2'))
    have G3 := d3 HG1.out G2
    clear G2 G2' HCS o0 HG1 HVA
    go_wp2
    go_roundw
    case rel => exact ⟨k + 1, by omega, by go_num, HN, G3⟩
    case measure => simp [intOf]; omega
  ·have HN : Hid (fo = none) := by
    show fo = none
    rw [← HFO.out]
    exact a8z (fun j hj => HI.out j hj (by omega))
   have hl : ¬ (k : Int) < (os.length : Int) := by omega
   clear HI HA
   go_wp2
   go_ret
   rw [HN.out]
   exact ⟨rfl, G⟩

end
end Go.Proofs.YtklipelnjgpnjaaGreatDoor
