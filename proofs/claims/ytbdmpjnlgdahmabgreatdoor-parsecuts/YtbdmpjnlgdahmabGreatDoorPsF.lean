/-
  The landed parser: rows of operators.
-/
import Derived.Test.YtbdmpjnlgdahmabGreatDoorPsE
namespace Go.Proofs.YtbdmpjnlgdahmabGreatDoor
open Go.RowKit
set_option maxRecDepth 100000

/-- A function value that reads. -/
def FnR (c : PC) (v : Value) (r : Nat → List Tk → Out) : Prop := ∃ (n : Nat) (bs lb : Array Value), v = .func (.func n) bs lb ∧ (∀ args w, (callFunc n args).run Tryz.prog w = .ok (.enter n args) w) ∧
  ∀ (W : World) (i : Nat) (vt vp : Value) (ts : List Tk) (nest bud : Nat) (ns : List (Nd × Nat)), PS c W i vt vp ts nest bud ns → r nest ts ≠ .error exP → Calls Tryz.prog n (bs ++ lb) W (RunP c W vt vp nest bud ns (r nest ts))

/-- An operator: its text, the node's kind and operation. -/
abbrev Op3 := List UInt8 × Nat × Nat
def Op3.nd (o : Op3) : Nd := { ndK o.2.1 with op := o.2.2 }
def o3 (o : Op3) : List Value := [str o.1, .int .i64 (o.2.1 : Int), .int .i64 (o.2.2 : Int)]
def flatO (os : List Op3) : List Value := os.flatMap o3
theorem flatO_len (os : List Op3) : (flatO os).length = os.length * 3 := by
  induction os with
  | nil => rfl
  | cons x xs ih => simp only [flatO, List.flatMap_cons, List.length_append, List.length_cons] at *; rw [ih]; simp [o3]; omega
theorem flatO_get (os : List Op3) (i j : Nat) (hi : i < os.length) (hj : j < 3) : (flatO os)[i * 3 + j]? = (o3 os[i])[j]? := by
  induction os generalizing i with
  | nil => simp at hi
  | cons x xs ih =>
    have e : flatO (x :: xs) = o3 x ++ flatO xs := rfl
    rw [e]
    have hl : (o3 x).length = 3 := rfl
    cases i with
    | zero => rw [List.getElem?_append_left (by omega)]; simp
    | succ i =>
      rw [List.getElem?_append_right (by omega), hl, show (i + 1) * 3 + j - 3 = i * 3 + j by omega, ih i (by simpa using hi)]
      simp
theorem CV.opers {w : World} {ao : Option Addr} {os : List Op3} (h : CV w ao (flatO os)) {k : Nat} (hk : k < os.length) :
    ∃ b off, ao = some ⟨b, off, none⟩ ∧ w.cell? ⟨b, off + k * 3, none⟩ = some (str os[k].1) ∧ w.cell? ⟨b, off + k * 3 + 1, none⟩ = some (.int .i64 (os[k].2.1 : Int)) ∧ w.cell? ⟨b, off + k * 3 + 2, none⟩ = some (.int .i64 (os[k].2.2 : Int)) := by
  have hl := flatO_len os
  obtain ⟨b, off, hao, hc⟩ := h.addr (k := k * 3) (by omega)
  have key : ∀ j (hj : j < 3), w.cell? ⟨b, off + k * 3 + j, none⟩ = (o3 os[k])[j]? := fun j hj => by
    rw [← flatO_get os k j hk hj, Nat.add_assoc, hc (k * 3 + j) (by omega), List.getElem?_eq_getElem (by omega)]
  exact ⟨b, off, hao, key 0 (by omega), key 1 (by omega), key 2 (by omega)⟩
/-- The operator that stands there. -/
def findO (os : List Op3) (x : List UInt8) : Option Nd := (os.find? fun o => decide (o.1 = x)).map Op3.nd
theorem findO_hit {os : List Op3} {x : List UInt8} {k : Nat} (hk : k < os.length) (hx : os[k].1 = x) (hn : ∀ j (hj : j < os.length), j < k → os[j].1 ≠ x) : findO os x = some os[k].nd := by
  unfold findO
  have : os.find? (fun o => decide (o.1 = x)) = some os[k] := by
    rw [List.find?_eq_some_iff_getElem]
    refine ⟨by simpa using hx, k, hk, rfl, fun j hj => ?_⟩
    have := hn j (by omega) hj
    simpa using this
  rw [this]
  rfl
theorem findO_no {os : List Op3} {x : List UInt8} (hn : ∀ j (hj : j < os.length), os[j].1 ≠ x) : findO os x = none := by
  unfold findO
  have : os.find? (fun o => decide (o.1 = x)) = none := by
    rw [List.find?_eq_none]
    intro o ho
    obtain ⟨j, hj, rfl⟩ := List.getElem_of_mem ho
    simpa using hn j hj
  rw [this]
  rfl
theorem op3_cells (x : List UInt8) (k o : Nat) : (Op3.nd (x, k, o)).cells = [.int .i64 (k : Int), .int .i64 (o : Int), .int .u32 0, .int .u32 0, .int .i64 0, .int .i64 0, .int .i64 0, .int .u8 0, .int .u8 0, .int .u8 0, .int .u8 0, .int .u8 0, .int .u8 0, .int .u8 0, .int .u8 0, .int .u8 0, .int .u8 0, .int .u8 0, .int .u8 0, .int .u8 0, .int .u8 0, .int .u8 0, .int .u8 0, .int .i64 0] := by kernel_rfl

/-- What comes of one more operator and the part behind it. -/
def FurP (c : PC) (w : World) (vt vp : Value) (nest bud : Nat) (ns : List (Nd × Nat)) (p : Nat) (f : Option Nd) (r : Out) (e : Ending) (w' : World) : Prop := match f with
  | none => e = .returned (.bool false) ∧ w.grownBy w' none
  | some nd => match r with
    | .ok (ms, ts') => e = .returned (.bool true) ∧ Ret c w vt vp ts' nest bud (ns ++ ms ++ [(nd, p)]) w'
    | .error er => e = .panicked (PanS er) ∧ GB w w' (foot c.g vt vp)

section
variable {c : PC} {w : World} {i nest bud : Nat} {vt vp : Value} {ts : List Tk} {ns : List (Nd × Nat)}

set_option maxHeartbeats 8000000 in
theorem further_any (h : PS c w i vt vp ts nest bud ns) (n : Nat) (bs lb : Array Value) (hent : ∀ args w, (callFunc n args).run Tryz.prog w = .ok (.enter n args) w) (rec : Nat → List Tk → Out)
    (hin : ∀ (W : World) (i : Nat) (vt vp : Value) (ts : List Tk) (nest bud : Nat) (ns : List (Nd × Nat)), PS c W i vt vp ts nest bud ns → rec nest ts ≠ .error exP → Calls Tryz.prog n (bs ++ lb) W (RunP c W vt vp nest bud ns (rec nest ts)))
    (a : Option Addr) (ca : Nat) (os : List Op3) (ha : CV w a (flatO os)) (hos : ∀ o ∈ os, Asked o.1) (hm : os.length ≤ 1000) (hr : findO os (hdT ts).text ≠ none → rec nest ts.tail ≠ .error exP) :
    Calls Tryz.prog 25 #[.pointer (some ⟨c.g, 0, none⟩), .func (.func n) bs lb, .slice a os.length ca] w (FurP c w vt vp nest bud ns (hdT ts).pos (findO os (hdT ts).text) (rec nest ts.tail)) := by
  have HP : Hid (PS c w i vt vp ts nest bud ns) := h
  have HA : Hid (CV w a (flatO os)) := ha
  have HIN : Hid (∀ (W : World) (i : Nat) (vt vp : Value) (ts : List Tk) (nest bud : Nat) (ns : List (Nd × Nat)), PS c W i vt vp ts nest bud ns → rec nest ts ≠ .error exP → Calls Tryz.prog n (bs ++ lb) W (RunP c W vt vp nest bud ns (rec nest ts))) := hin
  have HR : Hid (findO os (hdT ts).text ≠ none → rec nest ts.tail ≠ .error exP) := hr
  have HOS : Hid (∀ o ∈ os, Asked o.1) := hos
  obtain ⟨fo, hfo⟩ : ∃ f, findO os (hdT ts).text = f := ⟨_, rfl⟩
  have HFO : Hid (findO os (hdT ts).text = fo) := hfo
  rw [hfo]
  obtain ⟨rr, hrr⟩ : ∃ r, rec nest ts.tail = r := ⟨_, rfl⟩
  have HRR : Hid (rec nest ts.tail = rr) := hrr
  rw [hrr]
  obtain ⟨pp, hpp⟩ : ∃ p, (hdT ts).pos = p := ⟨_, rfl⟩
  have HPP : Hid ((hdT ts).pos = pp) := hpp
  rw [hpp]
  clear h ha hin hr hos hfo hrr hpp
  go_enter Tryz.func25, Tryz.ntmps25
  go_wp2
  go_loopw [12] (fun j wr => ∃ k : Nat, k ≤ os.length ∧ j = .int .i64 k ∧ Hid (∀ j (hj : j < os.length), j < k → os[j].1 ≠ (hdT ts).text) ∧ w.grownBy wr none) (fun j _ => os.length - (intOf j).toNat)
  case atStart => exact ⟨0, Nat.zero_le _, rfl, fun j _ hj => by omega, World.grownBy.refl _ _⟩
  case round =>
    obtain ⟨k, hk, rfl, HI, G⟩ := hrel
    by_cases hlt : k < os.length
    · obtain ⟨b, o, rfl, c0, c1, c2⟩ := (HA.out.keptNone G).opers hlt
      have hl : (k : Int) < (os.length : Int) := by omega
      have HASK : Hid (Asked os[k].1) := HOS.out _ (List.getElem_mem hlt)
      have HHIT : Hid (os[k].1 = (hdT ts).text → fo = some os[k].nd) := fun e => by rw [← HFO.out]; exact findO_hit hlt e HI.out
      have HMISS : Hid (os[k].1 ≠ (hdT ts).text → ∀ j (hj : j < os.length), j < k + 1 → os[j].1 ≠ (hdT ts).text) := fun e j hj hj2 => by
        by_cases e2 : j = k
        · subst e2; exact e
        · exact HI.out j hj (by omega)
      clear HI
      generalize os[k] = ok at *
      obtain ⟨ox, ok, oo⟩ := ok
      simp only at *
      have KA := World.grownBy_alloc wr (.cells #[str ox, .int .i64 (ok : Int), .int .i64 (oo : Int)] 55) none
      have VA := VAt.alloc wr 55 #[str ox, .int .i64 (ok : Int), .int .i64 (oo : Int)]
      have G1 := grown_trans G KA
      have HV : Hid (w.heap.size ≤ wr.heap.size) := G.size
      go_upto_region 4 with fail
      generalize wr.alloc (.cells #[.string ⟨ox.toArray⟩, .int .i64 (ok : Int), .int .i64 (oo : Int)] 55) = w1 at *
      generalize wr.heap.size = V at *
      have HCS : Hid (∀ W ad, w1.grownBy W none → CV W (some ad) [str ox] → Calls Tryz.prog 33 #[.pointer (some ⟨c.g, 0, none⟩), .slice (some ad) 1 1] W fun e w' => e = .returned (.bool (decide (ox = (hdT ts).text))) ∧ W.grownBy w' none) := fun W ad GW hW => by
        have := stands_any (HP.out.keep (grown_trans G1 GW)) (some ad) 1 [ox] hW (by simp)
        rw [show decide ((hdT ts).text ∈ [ox]) = decide (ox = (hdT ts).text) by simp [eq_comm]] at this
        exact this
      have o0 : w1.cell? ⟨V, 0, none⟩ = some (str ox) := VA.cell 0
      have HG1 : Hid (w.grownBy w1 none) := G1
      have HVA : Hid (VAt w1 V 55 #[str ox, .int .i64 (ok : Int), .int .i64 (oo : Int)]) := VA
      clear G KA c0 c1 c2 G1 VA HA
      by_cases he : ox = (hdT ts).text
      · have HN : Hid (fo = some (Op3.nd (ox, ok, oo)) ∧ rec nest ts.tail ≠ .error exP ∧ (hdT ts).kind ≠ 0) := by
          have e1 := HHIT.out he
          refine ⟨e1, HR.out (by rw [HFO.out, e1]; simp), ?_⟩
          exact isB_k0 (x := ox) (by rw [asked_is HP.out.good.hd HASK.out]; simpa using he.symm)
        rw [decide_eq_true he] at HCS
        clear he HHIT HMISS
        go_region_law ((go_simp; go_at_call 33; refine (HCS.out _ ⟨w1.heap.size, 0, none⟩ (by exact grown_trans (grown_drewN w1 1 none) (World.grownBy_alloc w1.drew _ none)) (by exact cv_lit w1.drew _ _)).mono ?_; rintro e w2 ⟨rfl, G2'⟩; have G2 : w1.grownBy w2 none := grown_trans (grown_trans (grown_drewN w1 1 none) (World.grownBy_alloc w1.drew (.cells #[str ox] 9) none)) G2'))
        have G3 := grown_trans HG1.out G2
        have P2 := HP.out.keep G3
        have VA2 := HVA.out.kept G2
        clear G2 G2' HG1 HVA HCS o0
        go_wp2_with fail
        refine (take_any P2 HN.out.2.2).mono ?_
        rintro e w3 ⟨rfl, i3, vt3, vp3, H3, G4, F4⟩
        have VA3 := G4.vat VA2 (HP.out.not_foot HV.out)
        have HF3 : Hid (¬ foot c.g vt3 vp3 V) := fun e => HP.out.not_foot HV.out (F4 V VA2.lt e)
        have G5 : GB w w3 (foot c.g vt vp) := (GB.non G3).trans G4 (fun _ _ h => h)
        have F5 : ∀ x, x < w.heap.size → foot c.g vt3 vp3 x → foot c.g vt vp x := fun x hx => F4 x (Nat.lt_of_lt_of_le hx G3.size)
        clear P2 VA2 G4 F4 G3
        unfold tkC
        obtain ⟨t, ht⟩ : ∃ t, hdT ts = t := ⟨_, rfl⟩
        have HT : Hid (hdT ts = t) := ht
        rw [ht]
        clear ht
        obtain ⟨tk, tp, tx, tn⟩ := t
        simp only
        have KA := World.grownBy_alloc w3 (.cells #[.int .i64 (tk : Int), .int .i64 (tp : Int), str tx, .int .u32 (tn : Int)] 33) none
        have VM := VAt.alloc w3 33 #[.int .i64 (tk : Int), .int .i64 (tp : Int), str tx, .int .u32 (tn : Int)]
        have H4 := H3.keep KA
        have VA4 := VA3.kept KA
        have G6 := G5.trans (GB.non (S := foot c.g vt vp) KA) (fun _ _ h => h)
        have HM : Hid (¬ foot c.g vt3 vp3 w3.heap.size) := H3.not_foot (Nat.le_refl _)
        clear H3 VA3 G5
        go_upto_region 6 with fail
        generalize w3.alloc (.cells #[.int .i64 (tk : Int), .int .i64 (tp : Int), .string ⟨tx.toArray⟩, .int .u32 (tn : Int)] 33) = w4 at *
        generalize w3.heap.size = M at *
        have CI := HIN.out w4 i3 vt3 vp3 ts.tail nest (bud + 1) ns H4 HN.out.2.1
        rw [HRR.out] at CI
        have HG6 : Hid (GB w w4 (foot c.g vt vp) ∧ ∀ x, x < w.heap.size → foot c.g vt3 vp3 x → foot c.g vt vp x) := ⟨G6, F5⟩
        clear HIN KA G6 F5 H4
        go_wp2_with fail
        refine CI.mono ?_
        clear CI
        cases rr with
        | error er =>
          rintro e w5 ⟨rfl, G7⟩
          go_wp2
          refine ⟨rfl, ?_⟩
          rw [HN.out.1]
          exact ⟨rfl, HG6.out.1.trans G7 HG6.out.2⟩
        | ok v =>
          obtain ⟨ms, ts'⟩ := v
          rintro e w5 ⟨rfl, i5, vt5, vp5, H5, G7, F7⟩
          have VM5 := G7.vat VM HM.out
          have VA5 := G7.vat VA4 HF3.out
          have G8 := HG6.out.1.trans G7 HG6.out.2
          have F8 : ∀ x, x < w.heap.size → foot c.g vt5 vp5 x → foot c.g vt vp x := fun x hx h => HG6.out.2 x hx (F7 x (Nat.lt_of_lt_of_le hx HG6.out.1.size) h)
          have HG8 : Hid (GB w w5 (foot c.g vt vp) ∧ ∀ x, x < w.heap.size → foot c.g vt5 vp5 x → foot c.g vt vp x) := ⟨G8, F8⟩
          have o1 : w5.cell? ⟨V, 1, none⟩ = some (.int .i64 (ok : Int)) := VA5.cell 1
          have o2 : w5.cell? ⟨V, 2, none⟩ = some (.int .i64 (oo : Int)) := VA5.cell 2
          have CP := put_any H5 ⟨tk, tp, tx, tn⟩ (Op3.nd (ox, ok, oo))
          rw [op3_cells] at CP
          unfold tkC at CP
          clear HG6 H5 G7 F7 VM VA4 VA5 G8 F8
          go_wp2_with (refine wpList_load_row rfl 33 (.tmp 9) rfl M rfl 33 _ (0, 0) _ VM5 Tryz.underlying33 rfl sizeTk ?_)
          refine CP.mono ?_
          rintro e w6 ⟨rfl, R6⟩
          clear CP
          go_wp2
          go_ret
          rw [HN.out.1]
          refine ⟨rfl, ?_⟩
          have e3 : pp = tp := by rw [← HPP.out, HT.out]
          rw [e3]
          exact Ret.of HG8.out.1 HG8.out.2 R6
      · have HN : Hid (∀ j (hj : j < os.length), j < k + 1 → os[j].1 ≠ (hdT ts).text) := HMISS.out he
        rw [decide_eq_false he] at HCS
        clear he HHIT HMISS
        go_region_law ((go_simp; go_at_call 33; refine (HCS.out _ ⟨w1.heap.size, 0, none⟩ (by exact grown_trans (grown_drewN w1 1 none) (World.grownBy_alloc w1.drew _ none)) (by exact cv_lit w1.drew _ _)).mono ?_; rintro e w2 ⟨rfl, G2'⟩; have G2 : w1.grownBy w2 none := grown_trans (grown_trans (grown_drewN w1 1 none) (World.grownBy_alloc w1.drew (.cells #[str ox] 9) none)) G2'))
        have G3 := grown_trans HG1.out G2
        clear G2 G2' HCS o0 HG1 HVA
        go_wp2
        go_roundw
        case rel => exact ⟨k + 1, by omega, by go_num, HN, G3⟩
        case measure => simp [intOf]; omega
    · have HN : Hid (fo = none) := by
        show fo = none
        rw [← HFO.out]
        exact findO_no (fun j hj => HI.out j hj (by omega))
      have hl : ¬ (k : Int) < (os.length : Int) := by omega
      clear HI HA
      go_wp2
      go_ret
      rw [HN.out]
      exact ⟨rfl, G⟩

end
end Go.Proofs.YtbdmpjnlgdahmabGreatDoor
