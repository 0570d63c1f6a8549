import Derived.Test.YtlfmddjppejmaaaGreatDoorqLotQ30
import Derived.Test.YtlfmddjppejmaaaGreatDoorqLotQ11
set_option maxHeartbeats 64000000
set_option maxRecDepth 100000
namespace Go.Proofs.YtlfmddjppejmaaaGreatDoor
open Go.RowKit
abbrev Op3 := List UInt8 × Nat × Nat
def Op3.nd (o : Op3) : Nd := { ndK o.2.1 with op := o.2.2 }
def o3 (o : Op3) : List Value := [str o.1, .int .i64 (o.2.1 : Int), .int .i64 (o.2.2 : Int)]
def J5 (os : List Op3) : List Value := os.flatMap o3
theorem a70 (os : List Op3) : (J5 os).length = os.length * 3 := by
 induction os with
 | nil => rfl
 | cons x xs ih => simp only [J5, List.flatMap_cons, List.length_append, List.length_cons] at *; rw [ih]; simp [o3]; omega
theorem a6Z (os : List Op3) (i j : Nat) (hi : i < os.length) (hj : j < 3) : (J5 os)[i * 3 + j]? = (o3 os[i])[j]? := by
 induction os generalizing i with
 | nil => simp at hi
 | cons x xs ih =>
  have e : J5 (x :: xs) = o3 x ++ J5 xs := rfl
  rw [e]
  have hl : (o3 x).length = 3 := rfl
  cases i with
  | zero => rw [List.getElem?_append_left (by omega)]; simp
  | succ i =>
   rw [List.getElem?_append_right (by omega), hl, show (i + 1) * 3 + j - 3 = i * 3 + j by omega, ih i (by simpa using hi)]
   simp
theorem CV.opers {w : World} {ao : Option Addr} {os : List Op3} (h : CV w ao (J5 os)) {k : Nat} (hk : k < os.length) :
  ∃ b off, ao = some ⟨b, off, none⟩ ∧ w.cell? ⟨b, off + k * 3, none⟩ = some (str os[k].1) ∧ w.cell? ⟨b, off + k * 3 + 1, none⟩ = some (.int .i64 (os[k].2.1 : Int)) ∧ w.cell? ⟨b, off + k * 3 + 2, none⟩ = some (.int .i64 (os[k].2.2 : Int)) := by
 have hl := a70 os
 obtain ⟨b, off, hao, hc⟩ := h.addr (k := k * 3) (by omega)
 have key : ∀ j (hj : j < 3), w.cell? ⟨b, off + k * 3 + j, none⟩ = (o3 os[k])[j]? := fun j hj => by
  rw [← a6Z os k j hk hj, Nat.add_assoc, hc (k * 3 + j) (by omega), List.getElem?_eq_getElem (by omega)]
 exact ⟨b, off, hao, key 0 (by omega), key 1 (by omega), key 2 (by omega)⟩
def y0 (os : List Op3) (x : List UInt8) : Option Nd := (os.find? fun o => decide (o.1 = x)).map Op3.nd
theorem a6U {os : List Op3} {x : List UInt8} {k : Nat} (hk : k < os.length) (hx : os[k].1 = x) (hn : ∀ j (hj : j < os.length), j < k → os[j].1 ≠ x) : y0 os x = some os[k].nd := by
 unfold y0
 have : os.find? (fun o => decide (o.1 = x)) = some os[k] := by
  rw [List.find?_eq_some_iff_getElem]
  refine ⟨by simpa using hx, k, hk, rfl, fun j hj => ?_⟩
  have := hn j (by omega) hj
  simpa using this
 rw [this]
 rfl
theorem a3R {os : List Op3} {x : List UInt8} (hn : ∀ j (hj : j < os.length), os[j].1 ≠ x) : y0 os x = none := by
 unfold y0
 have : os.find? (fun o => decide (o.1 = x)) = none := by
  rw [List.find?_eq_none]
  intro o ho
  obtain ⟨j, hj, rfl⟩ := List.getElem_of_mem ho
  simpa using hn j hj
 rw [this]
 rfl
theorem a4Q (x : List UInt8) (k o : Nat) : (Op3.nd (x, k, o)).cells = [.int .i64 (k : Int), .int .i64 (o : Int), .int .u32 0, .int .u32 0, .int .i64 0, .int .i64 0, .int .i64 0, .int .u8 0, .int .u8 0, .int .u8 0, .int .u8 0, .int .u8 0, .int .u8 0, .int .u8 0, .int .u8 0, .int .u8 0, .int .u8 0, .int .u8 0, .int .u8 0, .int .u8 0, .int .u8 0, .int .u8 0, .int .u8 0, .int .i64 0] := by kernel_rfl
def a3f (c : PC) (w : World) (vt vp : Value) (nest bud : Nat) (ns : List (Nd × Nat)) (p : Nat) (f : Option Nd) (r : Out) (e : Ending) (w' : World) : Prop := match f with
 | none => e = .returned (.bool false) ∧ w.grownBy w' none
 | some nd => match r with
  | .ok (ms, ts') => e = .returned (.bool true) ∧ Ret c w vt vp ts' nest bud (ns ++ ms ++ [(nd, p)]) w'
  | .error er => e = .panicked (M5 er) ∧ GB w w' (d3 c.g vt vp)

section
variable {c : PC} {w : World} {i nest bud : Nat} {vt vp : Value} {ts : List Tk} {ns : List (Nd × Nat)}
theorem a2q (h : PS c w i vt vp ts nest bud ns) (n : Nat) (bs lb : Array Value) (hent : ∀ args w, (callFunc n args).run Tryz.prog w = .ok (.enter n args) w) (rec : Nat → List Tk → Out)
  (hin : ∀ (W : World) (i : Nat) (vt vp : Value) (ts : List Tk) (nest bud : Nat) (ns : List (Nd × Nat)), PS c W i vt vp ts nest bud ns → rec nest ts ≠ .error exP → Calls Tryz.prog n (bs ++ lb) W (l6 c W vt vp nest bud ns (rec nest ts)))
  (a : Option Addr) (ca : Nat) (os : List Op3) (ha : CV w a (J5 os)) (hos : ∀ o ∈ os, F9 o.1) (hm : os.length ≤ 1000) (hr : y0 os (hdT ts).text ≠ none → rec nest ts.tail ≠ .error exP) :
  Calls Tryz.prog 52 #[.pointer (some ⟨c.g, 0, none⟩), .func (.func n) bs lb, .slice a os.length ca] w (a3f c w vt vp nest bud ns (hdT ts).pos (y0 os (hdT ts).text) (rec nest ts.tail)) := by
 have HP : Hid (PS c w i vt vp ts nest bud ns) := h
 have HA : Hid (CV w a (J5 os)) := ha
 have HIN : Hid (∀ (W : World) (i : Nat) (vt vp : Value) (ts : List Tk) (nest bud : Nat) (ns : List (Nd × Nat)), PS c W i vt vp ts nest bud ns → rec nest ts ≠ .error exP → Calls Tryz.prog n (bs ++ lb) W (l6 c W vt vp nest bud ns (rec nest ts))) := hin
 have HR : Hid (y0 os (hdT ts).text ≠ none → rec nest ts.tail ≠ .error exP) := hr
 have HOS : Hid (∀ o ∈ os, F9 o.1) := hos
 obtain ⟨fo, hfo⟩ : ∃ f, y0 os (hdT ts).text = f := ⟨_, rfl⟩
 have HFO : Hid (y0 os (hdT ts).text = fo) := hfo
 rw [hfo]
 obtain ⟨rr, hrr⟩ : ∃ r, rec nest ts.tail = r := ⟨_, rfl⟩
 have HRR : Hid (rec nest ts.tail = rr) := hrr
 rw [hrr]
 obtain ⟨pp, hpp⟩ : ∃ p, (hdT ts).pos = p := ⟨_, rfl⟩
 have HPP : Hid ((hdT ts).pos = pp) := hpp
 rw [hpp]
 clear h ha hin hr hos hfo hrr hpp
 go_enter Tryz.func52, Tryz.ntmps52
 go_wp2
 go_loopw [12] (fun j wr => ∃ k : Nat, k ≤ os.length ∧ j = .int .i64 k ∧ Hid (∀ j (hj : j < os.length), j < k → os[j].1 ≠ (hdT ts).text) ∧ w.grownBy wr none) (fun j _ => os.length - (intOf j).toNat)
 case atStart => exact ⟨0, Nat.zero_le _, rfl, fun j _ hj => by omega, World.grownBy.refl _ _⟩
 case round =>
  obtain ⟨k, hk, rfl, HI, G⟩ := hrel
  by_cases hlt : k < os.length
  ·obtain ⟨b, o, rfl, c0, c1, c2⟩ := (HA.out.keptNone G).opers hlt
   have hl : (k : Int) < (os.length : Int) := by omega
   have HASK : Hid (F9 os[k].1) := HOS.out _ (List.getElem_mem hlt)
   have HHIT : Hid (os[k].1 = (hdT ts).text → fo = some os[k].nd) := fun e => by rw [← HFO.out]; exact a6U hlt e HI.out
   have HMISS : Hid (os[k].1 ≠ (hdT ts).text → ∀ j (hj : j < os.length), j < k + 1 → os[j].1 ≠ (hdT ts).text) := fun e j hj hj2 => by
    by_cases e2 : j = k
    ·subst e2; exact e
    ·exact HI.out j hj (by omega)
   clear HI
   generalize os[k] = ok at *
   obtain ⟨ox, ok, oo⟩ := ok
   simp only at *
   have KA := World.grownBy_alloc wr (.cells #[str ox, .int .i64 (ok : Int), .int .i64 (oo : Int)] 68) none
   have VA := VAt.alloc wr 68 #[str ox, .int .i64 (ok : Int), .int .i64 (oo : Int)]
   have G1 := d5 G KA
   have HV : Hid (w.heap.size ≤ wr.heap.size) := G.size
   go_upto_region 4 with fail
   generalize wr.alloc (.cells #[.string ⟨ox.toArray⟩, .int .i64 (ok : Int), .int .i64 (oo : Int)] 68) = w1 at *
   generalize wr.heap.size = V at *
   have HCS : Hid (∀ W ad, w1.grownBy W none → CV W (some ad) [str ox] → Calls Tryz.prog 65 #[.pointer (some ⟨c.g, 0, none⟩), .slice (some ad) 1 1] W fun e w' => e = .returned (.bool (decide (ox = (hdT ts).text))) ∧ W.grownBy w' none) := fun W ad GW hW => by
    have := a0b (HP.out.keep (d5 G1 GW)) (some ad) 1 [ox] hW (by simp)
    rw [show decide ((hdT ts).text ∈ [ox]) = decide (ox = (hdT ts).text) by simp [eq_comm]] at this
    exact this
   have o0 : w1.cell? ⟨V, 0, none⟩ = some (str ox) := VA.cell 0
   have HG1 : Hid (w.grownBy w1 none) := G1
   have HVA : Hid (VAt w1 V 68 #[str ox, .int .i64 (ok : Int), .int .i64 (oo : Int)]) := VA
   clear G KA c0 c1 c2 G1 VA HA
   by_cases he : ox = (hdT ts).text
   ·have HN : Hid (fo = some (Op3.nd (ox, ok, oo)) ∧ rec nest ts.tail ≠ .error exP ∧ (hdT ts).kind ≠ 0) := by
     have e1 := HHIT.out he
     refine ⟨e1, HR.out (by rw [HFO.out, e1]; simp), ?_⟩
     exact a0i (x := ox) (by rw [T6 HP.out.good.hd HASK.out]; simpa using he.symm)
    rw [decide_eq_true he] at HCS
    clear he HHIT HMISS
    go_region_law ((go_simp; go_at_call 65; refine (HCS.out _ ⟨w1.heap.size, 0, none⟩ (by exact d5 (f8 w1 1 none) (World.grownBy_alloc w1.drew _ none)) (by exact m8 w1.drew _ _)).mono ?_; rintro e w2 ⟨rfl, G2'⟩; have G2 : w1.grownBy w2 none := d5 (d5 (f8 w1 1 none) (World.grownBy_alloc w1.drew (.cells #[str ox] 9) none)) G2'))
    have G3 := d5 HG1.out G2
    have P2 := HP.out.keep G3
    have VA2 := HVA.out.kept G2
    clear G2 G2' HG1 HVA HCS o0
    go_wp2_with fail
    refine (I5 P2 HN.out.2.2).mono ?_
    rintro e w3 ⟨rfl, i3, vt3, vp3, H3, G4, F4⟩
    have VA3 := G4.vat VA2 (HP.out.not_foot HV.out)
    have HF3 : Hid (¬ d3 c.g vt3 vp3 V) := fun e => HP.out.not_foot HV.out (F4 V VA2.lt e)
    have G5 : GB w w3 (d3 c.g vt vp) := (GB.non G3).trans G4 (fun _ _ h => h)
    have F5 : ∀ x, x < w.heap.size → d3 c.g vt3 vp3 x → d3 c.g vt vp x := fun x hx => F4 x (Nat.lt_of_lt_of_le hx G3.size)
    clear P2 VA2 G4 F4 G3
    unfold tkC
    obtain ⟨t, ht⟩ : ∃ t, hdT ts = t := ⟨_, rfl⟩
    have HT : Hid (hdT ts = t) := ht
    rw [ht]
    clear ht
    obtain ⟨tk, tp, tx, tn⟩ := t
    simp only
    have KA := World.grownBy_alloc w3 (.cells #[.int .i64 (tk : Int), .int .i64 (tp : Int), str tx, .int .u32 (tn : Int)] 42) none
    have VM := VAt.alloc w3 42 #[.int .i64 (tk : Int), .int .i64 (tp : Int), str tx, .int .u32 (tn : Int)]
    have H4 := H3.keep KA
    have VA4 := VA3.kept KA
    have G6 := G5.trans (GB.non (S := d3 c.g vt vp) KA) (fun _ _ h => h)
    have HM : Hid (¬ d3 c.g vt3 vp3 w3.heap.size) := H3.not_foot (Nat.le_refl _)
    clear H3 VA3 G5
    go_upto_region 6 with fail
    generalize w3.alloc (.cells #[.int .i64 (tk : Int), .int .i64 (tp : Int), .string ⟨tx.toArray⟩, .int .u32 (tn : Int)] 42) = w4 at *
    generalize w3.heap.size = M at *
    have CI := HIN.out w4 i3 vt3 vp3 ts.tail nest (bud + 1) ns H4 HN.out.2.1
    rw [HRR.out] at CI
    have HG6 : Hid (GB w w4 (d3 c.g vt vp) ∧ ∀ x, x < w.heap.size → d3 c.g vt3 vp3 x → d3 c.g vt vp x) := ⟨G6, F5⟩
    clear HIN KA G6 F5 H4
    go_wp2_with fail
    refine CI.mono ?_
    clear CI
    cases rr with
    | error er =>
     rintro e w5 ⟨rfl, G7⟩
     go_wp2
     refine ⟨rfl, ?_⟩
     rw [HN.out.1]
     exact ⟨rfl, HG6.out.1.trans G7 HG6.out.2⟩
    | ok v =>
     obtain ⟨ms, ts'⟩ := v
     rintro e w5 ⟨rfl, i5, vt5, vp5, H5, G7, F7⟩
     have VM5 := G7.vat VM HM.out
     have VA5 := G7.vat VA4 HF3.out
     have G8 := HG6.out.1.trans G7 HG6.out.2
     have F8 : ∀ x, x < w.heap.size → d3 c.g vt5 vp5 x → d3 c.g vt vp x := fun x hx h => HG6.out.2 x hx (F7 x (Nat.lt_of_lt_of_le hx HG6.out.1.size) h)
     have HG8 : Hid (GB w w5 (d3 c.g vt vp) ∧ ∀ x, x < w.heap.size → d3 c.g vt5 vp5 x → d3 c.g vt vp x) := ⟨G8, F8⟩
     have o1 : w5.cell? ⟨V, 1, none⟩ = some (.int .i64 (ok : Int)) := VA5.cell 1
     have o2 : w5.cell? ⟨V, 2, none⟩ = some (.int .i64 (oo : Int)) := VA5.cell 2
     have CP := F0 H5 ⟨tk, tp, tx, tn⟩ (Op3.nd (ox, ok, oo))
     rw [a4Q] at CP
     unfold tkC at CP
     clear HG6 H5 G7 F7 VM VA4 VA5 G8 F8
     go_wp2_with (refine wpList_load_row rfl 42 (.tmp 9) rfl M rfl 42 _ (0, 0) _ VM5 Tryz.underlying42 rfl D2 ?_)
     refine CP.mono ?_
     rintro e w6 ⟨rfl, R6⟩
     clear CP
     go_wp2
     go_ret
     rw [HN.out.1]
     refine ⟨rfl, ?_⟩
     have e3 : pp = tp := by rw [← HPP.out, HT.out]
     rw [e3]
     exact Ret.of HG8.out.1 HG8.out.2 R6
   ·have HN : Hid (∀ j (hj : j < os.length), j < k + 1 → os[j].1 ≠ (hdT ts).text) := HMISS.out he
    rw [decide_eq_false he] at HCS
    clear he HHIT HMISS
    go_region_law ((go_simp; go_at_call 65; refine (HCS.out _ ⟨w1.heap.size, 0, none⟩ (by exact d5 (f8 w1 1 none) (World.grownBy_alloc w1.drew _ none)) (by exact m8 w1.drew _ _)).mono ?_; rintro e w2 ⟨rfl, G2'⟩; have G2 : w1.grownBy w2 none := d5 (d5 (f8 w1 1 none) (World.grownBy_alloc w1.drew (.cells #[str ox] 9) none)) G2'))
    have G3 := d5 HG1.out G2
    clear G2 G2' HCS o0 HG1 HVA
    go_wp2
    go_roundw
    case rel => exact ⟨k + 1, by omega, by go_num, HN, G3⟩
    case measure => simp [intOf]; omega
  ·have HN : Hid (fo = none) := by
    show fo = none
    rw [← HFO.out]
    exact a3R (fun j hj => HI.out j hj (by omega))
   have hl : ¬ (k : Int) < (os.length : Int) := by omega
   clear HI HA
   go_wp2
   go_ret
   rw [HN.out]
   exact ⟨rfl, G⟩

end
theorem GB.cv {w w' : World} {S : Nat → Prop} {ao : Option Addr} {vs : List Value} (h : GB w w' S) (hc : CV w ao vs) (ha : ∀ ad, ao = some ad → ¬ S ad.block) : CV w' ao vs :=
 hc.same fun ad had _ hlt => h.block ad.block hlt (ha ad had)
def msr (c : PC) (W : World) : Nat := c.all.length - (match W.cell? ⟨c.g, 1, none⟩ with
 | some (.int _ z) => z.toNat
 | _ => 0)

section
variable {c : PC} {w : World} {i nest bud : Nat} {vt vp : Value} {ts : List Tk} {ns : List (Nd × Nat)}
theorem PS.msr (h : PS c w i vt vp ts nest bud ns) : msr c w = ts.length := by
 have c1 : w.cell? ⟨c.g, 1, none⟩ = some (.int .i64 (i : Int)) := h.blk.cell 1
 unfold Go.Proofs.YtlfmddjppejmaaaGreatDoor.msr
 rw [c1, ← h.drop, List.length_drop]
 rfl
theorem a4R {α β : Type} (nest : Nat) (ts : List Tk) (x : Except Er α) (f : α → Except Er β) : s9 nest ts (d8 x f) = d8 (s9 nest ts x) f := by
 unfold s9
 split <;> rfl
theorem a7H {rec : List Tk → Out} {k f : Nat} {ms : List (Nd × Nat)} {ts : List Tk} (h : opT k ts = none) : x0 rec k f ms ts = .ok (ms, ts) := by
 cases f with
 | zero => rfl
 | succ f => rw [x0, h]
theorem a7J {rec : List Tk → Out} {k f : Nat} {ms : List (Nd × Nat)} {ts : List Tk} {nd : Nd} (hk : k ≠ 4) (h : opT k ts = some nd) : x0 rec k (f + 1) ms ts = d8 (rec ts.tail) fun p => x0 rec k f (ms ++ p.1 ++ [(nd, (hdT ts).pos)]) p.2 := by
 rw [x0, h]
 simp only
 congr 1
 funext p
 rw [if_neg hk]
theorem a09 (h : PS c w i vt vp ts nest bud ns) (n : Nat) (bs lb : Array Value) (hent : ∀ args w, (callFunc n args).run Tryz.prog w = .ok (.enter n args) w) (rec : Nat → List Tk → Out)
  (hin : ∀ (W : World) (i : Nat) (vt vp : Value) (ts : List Tk) (nest bud : Nat) (ns : List (Nd × Nat)), PS c W i vt vp ts nest bud ns → rec nest ts ≠ .error exP → Calls Tryz.prog n (bs ++ lb) W (l6 c W vt vp nest bud ns (rec nest ts)))
  (hfr : ∀ nest ts ns r, rec nest ts = .ok (ns, r) → Fr ts r)
  (a : Option Addr) (ca : Nat) (os : List Op3) (ha : CV w a (J5 os)) (hab : ∀ ad, a = some ad → ¬ d3 c.g vt vp ad.block) (hau : ∀ ad, a = some ad → ad.block < w.heap.size) (hos : ∀ o ∈ os, F9 o.1) (hm : os.length ≤ 1000) (k : Nat) (hk : k ≠ 4) (hop : ∀ ts, I0 ts → opT k ts = y0 os (hdT ts).text)
  (ans : Out) (hans : d8 (rec nest ts) (fun p => x0 (rec nest) k p.2.length p.1 p.2) = ans) (hne : ans ≠ .error exP) :
  Calls Tryz.prog 32 #[.pointer (some ⟨c.g, 0, none⟩), .func (.func n) bs lb, .slice a os.length ca] w (l6 c w vt vp nest bud ns ans) := by
 have HP : Hid (PS c w i vt vp ts nest bud ns) := h
 have HA : Hid (CV w a (J5 os) ∧ (∀ ad, a = some ad → ¬ d3 c.g vt vp ad.block) ∧ ∀ ad, a = some ad → ad.block < w.heap.size) := ⟨ha, hab, hau⟩
 have HIN : Hid (∀ (W : World) (i : Nat) (vt vp : Value) (ts : List Tk) (nest bud : Nat) (ns : List (Nd × Nat)), PS c W i vt vp ts nest bud ns → rec nest ts ≠ .error exP → Calls Tryz.prog n (bs ++ lb) W (l6 c W vt vp nest bud ns (rec nest ts))) := hin
 have HOS : Hid ((∀ o ∈ os, F9 o.1) ∧ ∀ ts, I0 ts → opT k ts = y0 os (hdT ts).text) := ⟨hos, hop⟩
 have HFR : Hid (∀ nest ts ns r, rec nest ts = .ok (ns, r) → Fr ts r) := hfr
 have HNE : Hid (ans ≠ .error exP) := hne
 have h1 : rec nest ts ≠ .error exP := fun e => by rw [e] at hans; exact hne hans.symm
 have CI := hin w i vt vp ts nest bud ns h h1
 have HANS : Hid (d8 (rec nest ts) (fun p => x0 (rec nest) k p.2.length p.1 p.2) = ans) := hans
 obtain ⟨r0, hr0⟩ : ∃ r, rec nest ts = r := ⟨_, rfl⟩
 rw [hr0] at CI HANS
 clear h ha hin hos hop hne hab hau hfr h1 hans hr0
 go_enter Tryz.func32, Tryz.ntmps32
 go_wp2_with fail
 refine CI.mono ?_
 clear CI
 cases r0 with
 | error er =>
  have ha : ans = .error er := HANS.out.symm
  subst ha
  rintro e w1 ⟨rfl, G1⟩
  go_wp2
  exact ⟨rfl, rfl, G1⟩
 | ok v =>
  obtain ⟨ms, ts1⟩ := v
  rintro e w1 ⟨rfl, i1, vt1, vp1, H1, G1, F1⟩
  have HQ : Hid (PS c w1 i1 vt1 vp1 ts1 nest bud (ns ++ ms) ∧ GB w w1 (d3 c.g vt vp) ∧ ∀ x, x < w.heap.size → d3 c.g vt1 vp1 x → d3 c.g vt vp x) := ⟨H1, G1, F1⟩
  have HL : Hid (x0 (rec nest) k ts1.length ms ts1 = ans) := HANS.out
  clear H1 G1 F1 HANS
  go_wp2
  go_loopw [] (fun wr => ∃ (f : Nat) (mx : List (Nd × Nat)) (tx : List Tk) (ix : Nat) (vx vy : Value), tx.length ≤ f ∧ Hid (x0 (rec nest) k f mx tx = ans) ∧ PS c wr ix vx vy tx nest bud (ns ++ mx) ∧ GB w wr (d3 c.g vt vp) ∧ ∀ x, x < w.heap.size → d3 c.g vx vy x → d3 c.g vt vp x) (fun wr => msr c wr)
  case atStart => exact ⟨ts1.length, ms, ts1, i1, vt1, vp1, Nat.le_refl _, HL, HQ.out.1, HQ.out.2.1, HQ.out.2.2⟩
  case round =>
   clear HQ HL
   obtain ⟨f, mx, tx, ix, vx, vy, hf, HL, H2, G2, F2⟩ := hrel
   have hfo := HOS.out.2 tx H2.good
   have CX := G2.cv HA.out.1 HA.out.2.1
   have hlen := List.length_pos_iff.2 H2.good.ne
   cases hO : opT k tx with
   | none =>
    rw [hO] at hfo
    have CF := a2q H2 n bs lb hent rec HIN.out a ca os CX HOS.out.1 hm (fun h => absurd hfo.symm h)
    rw [← hfo] at CF
    have HA2 : Hid (ans = .ok (mx, tx)) := by show ans = _; rw [← HL.out, a7H hO]
    have HQ : Hid (PS c wr ix vx vy tx nest bud (ns ++ mx) ∧ GB w wr (d3 c.g vt vp) ∧ ∀ x, x < w.heap.size → d3 c.g vx vy x → d3 c.g vt vp x) := ⟨H2, G2, F2⟩
    clear hO hfo CX HL H2 G2 F2 hf hlen
    go_wp2_with fail
    refine CF.mono ?_
    rintro e w2 ⟨rfl, G3⟩
    clear CF
    go_wp2
    go_end0
    rw [HA2.out]
    exact ⟨rfl, ix, vx, vy, HQ.out.1.keep G3, HQ.out.2.1.trans (GB.non (S := d3 c.g vt vp) G3) (fun _ _ h => h), HQ.out.2.2⟩
   | some nd =>
    rw [hO] at hfo
    obtain ⟨f, rfl⟩ : ∃ g, f = g + 1 := ⟨f - 1, by omega⟩
    have e1 : d8 (rec nest tx.tail) (fun p => x0 (rec nest) k f (mx ++ p.1 ++ [(nd, (hdT tx).pos)]) p.2) = ans := by rw [← HL.out, a7J hk hO]
    have hne2 : rec nest tx.tail ≠ .error exP := fun e => by rw [e] at e1; exact HNE.out e1.symm
    have CF := a2q H2 n bs lb hent rec HIN.out a ca os CX HOS.out.1 hm (fun _ => hne2)
    rw [← hfo] at CF
    have HE1 : Hid (d8 (rec nest tx.tail) (fun p => x0 (rec nest) k f (mx ++ p.1 ++ [(nd, (hdT tx).pos)]) p.2) = ans) := e1
    have HFL : Hid (∀ ns r, rec nest tx.tail = .ok (ns, r) → r.length + 2 ≤ tx.length) := fun ns r hr => by
     have := (HFR.out _ _ _ _ hr).2
     rw [List.length_tail] at this
     omega
    have HM : Hid (msr c wr = tx.length ∧ tx.length ≤ f + 1) := ⟨H2.msr, hf⟩
    have HQ : Hid (GB w wr (d3 c.g vt vp) ∧ ∀ x, x < w.heap.size → d3 c.g vx vy x → d3 c.g vt vp x) := ⟨G2, F2⟩
    clear hO hfo CX HL H2 G2 F2 hf hlen e1 hne2
    go_wp2_with fail
    refine CF.mono ?_
    clear CF
    generalize rec nest tx.tail = rr at *
    cases rr with
    | error er =>
     have ha : ans = .error er := HE1.out.symm
     rintro e w2 ⟨rfl, G3⟩
     go_wp2
     refine ⟨rfl, ?_⟩
     rw [ha]
     exact ⟨rfl, HQ.out.1.trans G3 HQ.out.2⟩
    | ok v =>
     obtain ⟨p1, p2⟩ := v
     rintro e w2 ⟨rfl, i3, v3, v4, H3, G3, F3⟩
     have HL2 : Hid (x0 (rec nest) k f (mx ++ p1 ++ [(nd, (hdT tx).pos)]) p2 = ans) := HE1.out
     have hlen := HFL.out p1 p2 rfl
     have HM2 : Hid (msr c w2 = p2.length) := H3.msr
     have HR : Hid (PS c w2 i3 v3 v4 p2 nest bud (ns ++ (mx ++ p1 ++ [(nd, (hdT tx).pos)])) ∧ GB w w2 (d3 c.g vt vp) ∧ ∀ x, x < w.heap.size → d3 c.g v3 v4 x → d3 c.g vt vp x) :=
      ⟨by rw [← List.append_assoc, ← List.append_assoc]; exact H3, HQ.out.1.trans G3 HQ.out.2, fun x hx h => HQ.out.2 x hx (F3 x (Nat.lt_of_lt_of_le hx HQ.out.1.size) h)⟩
     clear H3 G3 F3 HE1 HFL HQ
     go_wp2
     go_roundw
     case rel => exact ⟨f, _, p2, i3, v3, v4, by have := HM.out; omega, HL2, HR.out.1, HR.out.2.1, HR.out.2.2⟩
     case measure => rw [HM2.out, HM.out.1]; omega
theorem a4X (h : PS c w i vt vp ts nest bud ns) (kd : Nat) (n : Nat) (bs lb : Array Value) (hent : ∀ args w, (callFunc n args).run Tryz.prog w = .ok (.enter n args) w) (n2 : Nat) (bs2 lb2 : Array Value) (hent2 : ∀ args w, (callFunc n2 args).run Tryz.prog w = .ok (.enter n2 args) w)
  (rec rec2 : Nat → List Tk → Out)
  (hin : ∀ (W : World) (i : Nat) (vt vp : Value) (ts : List Tk) (nest bud : Nat) (ns : List (Nd × Nat)), PS c W i vt vp ts nest bud ns → rec nest ts ≠ .error exP → Calls Tryz.prog n (bs ++ lb) W (l6 c W vt vp nest bud ns (rec nest ts)))
  (hin2 : ∀ (W : World) (i : Nat) (vt vp : Value) (ts : List Tk) (nest bud : Nat) (ns : List (Nd × Nat)), PS c W i vt vp ts nest bud ns → rec2 nest ts ≠ .error exP → Calls Tryz.prog n2 (bs2 ++ lb2) W (l6 c W vt vp nest bud ns (rec2 nest ts)))
  (a : Option Addr) (ca : Nat) (xs : List (List UInt8)) (ha : CV w a (xs.map str)) (hm : xs.length ≤ 1000)
  (ans : Out) (hyes : (hdT ts).text ∈ xs → (hdT ts).kind ≠ 0 ∧ s9 nest ts (d8 (rec (nest + 1) ts.tail) fun p => .ok (p.1 ++ [(ndK kd, (hdT ts).pos)], p.2)) = ans) (hno : (hdT ts).text ∉ xs → rec2 nest ts = ans) (hne : ans ≠ .error exP) :
  Calls Tryz.prog 68 #[.pointer (some ⟨c.g, 0, none⟩), .int .i64 (kd : Int), .func (.func n) bs lb, .func (.func n2) bs2 lb2, .slice a xs.length ca] w (l6 c w vt vp nest bud ns ans) := by
 have CS := a0b h a ca xs ha hm
 have HP : Hid (PS c w i vt vp ts nest bud ns) := h
 by_cases hx : (hdT ts).text ∈ xs
 ·obtain ⟨hk, ha2⟩ := hyes hx
  rw [decide_eq_true hx] at CS
  rw [a4R] at ha2
  have HR : Hid (nest ≠ 200 → rec (nest + 1) ts.tail ≠ .error exP) := fun hn e => by
   rw [s9, if_neg hn, e] at ha2
   exact hne ha2.symm
  have HC : Hid (∀ W, w.grownBy W none → Calls Tryz.prog 75 #[.pointer (some ⟨c.g, 0, none⟩), .func (.func n) bs lb] W (U5 c W vt vp (fun _ => False) nest (bud + 1) ns (fun _ => .agg (tkC (hdT ts))) id (fun _ _ => True) (s9 nest ts (rec (nest + 1) ts.tail)))) := fun W G =>
   a2G (h.keep G) hk n bs lb hent (fun _ => False) id (fun _ _ => True) (rec (nest + 1) ts.tail) (fun _ h => h.elim) (fun _ _ _ h _ => h) (fun W i1 vt1 vp1 _ _ h1 => by
    have := h1.nest_le
    exact (hin W i1 vt1 vp1 ts.tail (nest + 1) (bud + 1) ns h1 (HR.out (by omega))).mono fun _ _ h => U5.of_run h)
  have HA : Hid (d8 (s9 nest ts (rec (nest + 1) ts.tail)) (fun p => .ok (p.1 ++ [(ndK kd, (hdT ts).pos)], p.2)) = ans) := ha2
  generalize s9 nest ts (rec (nest + 1) ts.tail) = rr at *
  have HO3 : Hid (∀ W i vt vp ts nest bud ns, PS c W i vt vp ts nest (bud + 1) ns → ∀ t : Tk, Calls Tryz.prog 67 #[.pointer (some ⟨c.g, 0, none⟩), .agg (tkC t), .agg ([.int .i64 (kd : Int), .int .i64 0, .int .u32 0, .int .u32 0, .int .i64 0, .int .i64 0, .int .i64 0, .int .u8 0, .int .u8 0, .int .u8 0, .int .u8 0, .int .u8 0, .int .u8 0, .int .u8 0, .int .u8 0, .int .u8 0, .int .u8 0, .int .u8 0, .int .u8 0, .int .u8 0, .int .u8 0, .int .u8 0, .int .u8 0, .int .i64 0] : List Value).toArray] W fun e w' => e = .returned (.tuple #[]) ∧ Ret c W vt vp ts nest bud (ns ++ [(ndK kd, t.pos)]) w') := fun W i vt vp ts nest bud ns h t => by
   have := F0 h t (Op3.nd ([], kd, 0))
   rw [a4Q] at this
   exact this
  clear h ha hin hin2 hyes hno hne hx ha2 HR hk
  go_enter Tryz.func68, Tryz.ntmps68
  go_wp2_with fail
  refine CS.mono ?_
  rintro e w1 ⟨rfl, G1⟩
  have CN := HC.out w1 G1
  clear CS HC
  go_wp2_with fail
  refine CN.mono ?_
  clear CN
  intro e w2 hX
  have hB := hX.back
  clear hX
  cases rr with
  | error er =>
   obtain ⟨rfl, G2⟩ := hB
   have HA2 : Hid (ans = .error er) := HA.out.symm
   go_wp2
   refine ⟨rfl, ?_⟩
   rw [HA2.out]
   exact ⟨rfl, (GB.non (S := d3 c.g vt vp) G1).trans G2 (fun _ _ h => h)⟩
  | ok v =>
   obtain ⟨ms, ts'⟩ := v
   obtain ⟨rfl, i3, vt3, vp3, H3, G3, F3⟩ := hB
   have CP := HO3.out w2 i3 vt3 vp3 ts' nest bud (ns ++ ms) H3 (hdT ts)
   have HQ : Hid (GB w w2 (d3 c.g vt vp) ∧ ∀ x, x < w.heap.size → d3 c.g vt3 vp3 x → d3 c.g vt vp x) := ⟨(GB.non (S := d3 c.g vt vp) G1).trans G3 (fun _ _ h => h), fun x hx => F3 x (Nat.lt_of_lt_of_le hx G1.size)⟩
   have ha : ans = .ok (ms ++ [(ndK kd, (hdT ts).pos)], ts') := HA.out.symm
   have HA2 : Hid (ans = .ok (ms ++ [(ndK kd, (hdT ts).pos)], ts')) := ha
   clear HA HO3 H3 G3 F3 G1 ha
   obtain ⟨TC, hTC⟩ : ∃ T, tkC (hdT ts) = T := ⟨_, rfl⟩
   rw [hTC] at CP ⊢
   clear hTC
   go_wp2_with fail
   refine CP.mono ?_
   rintro e w3 ⟨rfl, R⟩
   clear CP
   go_wp2
   go_end0
   rw [HA2.out]
   refine ⟨rfl, ?_⟩
   rw [← List.append_assoc]
   exact Ret.of HQ.out.1 HQ.out.2 R
 ·have ha2 := hno hx
  rw [decide_eq_false hx] at CS
  have HC : Hid (∀ W, w.grownBy W none → Calls Tryz.prog n2 (bs2 ++ lb2) W (l6 c W vt vp nest bud ns ans)) := fun W G => by
   have := hin2 W i vt vp ts nest bud ns (h.keep G) (by rw [ha2]; exact hne)
   rw [ha2] at this
   exact this
  have HNE : Hid (ans ≠ .error exP) := hne
  clear h ha hin hin2 hyes hno hne hx ha2
  go_enter Tryz.func68, Tryz.ntmps68
  go_wp2_with fail
  refine CS.mono ?_
  rintro e w1 ⟨rfl, G1⟩
  have CN := HC.out w1 G1
  clear CS HC
  go_wp2_with fail
  refine CN.mono ?_
  clear CN
  cases ans with
  | error er =>
   rintro e w2 ⟨rfl, G2⟩
   go_wp2
   exact ⟨rfl, rfl, (GB.non (S := d3 c.g vt vp) G1).trans G2 (fun _ _ h => h)⟩
  | ok v =>
   obtain ⟨ms, ts'⟩ := v
   rintro e w2 ⟨rfl, R⟩
   go_wp2
   go_end0
   exact ⟨rfl, Ret.of (GB.non G1) (fun _ _ h => h) R⟩

end
theorem a7p {ts : List Tk} {x y : List UInt8} (h : isB ts x = true) (hxy : x ≠ y) : isB ts y = false := by
 have e := a0C h
 unfold isB
 rw [e]
 have : (x == y) = false := by simpa using hxy
 rw [this, Bool.and_false]
theorem a1L {ts : List Tk} {x y : List UInt8} (h : isB ts x = true) (hxy : x ≠ y) : ¬ isB ts y = true := by rw [a7p h hxy]; simp
def I3 (of side n m : Nat) : Nd := { ndK 16 with of := of, side := side, n := n, m := m }
def J8 (of side : Nat) (ts : List Tk) : Except Er (Nd × List Tk) :=
 if isB ts j1 = true then d8 (j8 ts.tail) fun p => .ok (I3 of side p.1 p.1, p.2)
 else d8 (l5 j4 ts) fun r => d8 (j8 r) fun p => d8 (l5 [45] p.2) fun r2 => d8 (j8 r2) fun q => .ok (I3 of side p.1 q.1, q.2)
def L0 (ts : List Tk) : Except Er ((Nat × List UInt8) × List Tk) :=
 if (hdT ts).kind = 3 then (match x1 (hdT ts).text with
  | some a => .ok ((2, a ++ List.replicate 12 0), ts.tail)
  | none => x6 ts 112)
 else if (hdT ts).kind = 4 then (match x3 (hdT ts).text with
  | some a => .ok ((3, a), ts.tail)
  | none => x6 ts 112)
 else x6 ts 111
theorem a3i (k : Nat) (ts : List Tk) : S7 k ts = d8 (L0 ts) fun p => .ok ({ ndK k with of := p.1.1, addr := p.1.2 }, p.2) := by
 unfold S7 L0
 by_cases h3 : (hdT ts).kind = 3
 ·rw [if_pos h3, if_pos h3]
  cases x1 (hdT ts).text <;> rfl
 ·rw [if_neg h3, if_neg h3]
  by_cases h4 : (hdT ts).kind = 4
  ·rw [if_pos h4, if_pos h4]
   cases x3 (hdT ts).text <;> rfl
  ·rw [if_neg h4, if_neg h4]
   rfl
def a1g (side of : Nat) (a : List UInt8) : Nd := { ndK 14 with of := of, addr := a, side := side }
def a1o (side of : Nat) (a : List UInt8) (b : Nat) : Nd := { ndK 15 with of := of, addr := a, bits := b, side := side }
def z7 (side : Nat) (ts : List Tk) : Except Er (Nd × List Tk) :=
 if isB ts p9 = true then d8 (L0 ts.tail) fun p => .ok (a1g side p.1.1 p.1.2, p.2)
 else if isB ts C9 = true then d8 (L0 ts.tail) fun p => d8 (l5 [47] p.2) fun r => d8 (j8 r) fun q => .ok (a1o side p.1.1 p.1.2 q.1, q.2)
 else J8 0 side ts
def D5 (at' : Nat) (x : Except Er (Nd × List Tk)) : Out := d8 x fun p => .ok ([(p.1, at')], p.2)
theorem a00 {α β γ : Type} (x : Except Er α) (f : α → Except Er β) (g : β → Except Er γ) : d8 (d8 x f) g = d8 x fun y => d8 (f y) g := by cases x <;> rfl
theorem a3Q {x : List UInt8} {ts : List Tk} (h : ¬ isB ts x = true) : l5 x ts = .error ((hdT ts).pos, if (hdT ts).kind = 0 then 110 else 111) := by rw [l5, if_neg h]; rfl
theorem af1 {of at' side : Nat} {ts : List Tk} (hof : of ≠ 0) : sidedB of at' side ts = D5 at' (J8 of side ts) := by
 unfold sidedB J8 D5
 by_cases h1 : isB ts j1 = true
 ·rw [if_pos h1, if_pos h1, a00]; rfl
 rw [if_neg h1, if_neg h1]
 by_cases h2 : isB ts j4 = true
 ·rw [if_pos h2]
  have : l5 j4 ts = .ok ts.tail := by rw [l5, if_pos h2]
  rw [this]
  simp only [q9, a00]
  rfl
 rw [if_neg h2, if_neg (fun h => hof h.1), if_neg (fun h => hof h.1), a3Q h2]
 rfl
theorem af0 {at' side : Nat} {ts : List Tk} : sidedB 0 at' side ts = D5 at' (z7 side ts) := by
 unfold sidedB z7 D5
 by_cases h1 : isB ts j1 = true
 ·rw [if_pos h1, if_neg (a1L h1 (by decide)), if_neg (a1L h1 (by decide)), J8, if_pos h1, a00]; rfl
 rw [if_neg h1]
 by_cases h2 : isB ts j4 = true
 ·rw [if_pos h2, if_neg (a1L h2 (by decide)), if_neg (a1L h2 (by decide)), J8, if_neg h1]
  have : l5 j4 ts = .ok ts.tail := by rw [l5, if_pos h2]
  rw [this]
  simp only [q9, a00]
  rfl
 rw [if_neg h2]
 by_cases h3 : isB ts p9 = true
 ·rw [if_pos ⟨rfl, h3⟩, if_pos h3, a3i]
  simp only [a00, q9]
  rfl
 rw [if_neg (fun h => h3 h.2), if_neg h3]
 by_cases h4 : isB ts C9 = true
 ·rw [if_pos ⟨rfl, h4⟩, if_pos h4, a3i]
  simp only [a00, q9]
  rfl
 rw [if_neg (fun h => h4 h.2), if_neg h4, J8, if_neg h1, a3Q h2]
 rfl
theorem a19 {x : List UInt8} (h : x ∈ W7) : F9 x := ⟨(a1u x h).1, 2, .inr rfl, (a1u x h).2.1⟩
theorem s7 {x : List UInt8} (h0 : x ≠ []) (h : o7 x = .ok (5, x, 0)) : F9 x := ⟨h0, 5, .inl rfl, h⟩
theorem a2e {x : List UInt8} (h0 : x ≠ []) (h : o7 x = .ok (2, x, 0)) : F9 x := ⟨h0, 2, .inr rfl, h⟩

end Go.Proofs.YtlfmddjppejmaaaGreatDoor
