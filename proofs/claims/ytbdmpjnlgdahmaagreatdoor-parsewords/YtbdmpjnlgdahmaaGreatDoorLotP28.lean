/-
  The landed parser: what opens and what is inside. The landed parser: rows of operators.
-/
import Derived.Test.YtbdmpjnlgdahmaaGreatDoorPsD
namespace Go.Proofs.YtbdmpjnlgdahmaaGreatDoor
open Go.RowKit
set_option maxRecDepth 100000

/-- What a reading comes to that tells something, makes nodes, and may write other blocks. -/
def RunX {α : Type} (c : PC) (w : World) (vt vp : Value) (E : Nat → Prop) (nest bud : Nat) (ns : List (Nd × Nat)) (val : α → Value) (more : α → List (Nd × Nat)) (X : α → World → Prop) (r : Except Er (α × List Tk)) (e : Ending) (w' : World) : Prop := match r with
  | .ok (v, ts') => e = .returned (val v) ∧ X v w' ∧ ∃ i' vt' vp', PS c w' i' vt' vp' ts' nest bud (ns ++ more v) ∧ GB w w' (fun x => foot c.g vt vp x ∨ E x) ∧ ∀ x, x < w.heap.size → foot c.g vt' vp' x → foot c.g vt vp x
  | .error er => e = .panicked (PanS er) ∧ GB w w' (fun x => foot c.g vt vp x ∨ E x)
theorem RunX.of_run {c : PC} {w : World} {vt vp : Value} {nest bud : Nat} {ns : List (Nd × Nat)} {r : Out} {e : Ending} {w' : World} (h : RunP c w vt vp nest bud ns r e w') : RunX c w vt vp (fun _ => False) nest bud ns (fun _ => .tuple #[]) id (fun _ _ => True) r e w' := by
  cases r with
  | error er => exact ⟨h.1, h.2.mono (fun x hx => .inl hx)⟩
  | ok v =>
    obtain ⟨ms, ts'⟩ := v
    obtain ⟨h1, i', vt', vp', h2, h3, h4⟩ := h
    exact ⟨h1, trivial, i', vt', vp', h2, h3.mono (fun x hx => .inl hx), h4⟩
def BackP (c : PC) (w : World) (vt vp : Value) (nest bud : Nat) (ns : List (Nd × Nat)) (val : List (Nd × Nat) → Value) (r : Out) (e : Ending) (w' : World) : Prop := match r with
  | .ok (ms, ts') => e = .returned (val ms) ∧ Ret c w vt vp ts' nest bud (ns ++ ms) w'
  | .error er => e = .panicked (PanS er) ∧ GB w w' (foot c.g vt vp)
theorem RunX.back {c : PC} {w : World} {vt vp : Value} {nest bud : Nat} {ns : List (Nd × Nat)} {r : Out} {e : Ending} {w' : World} {val : List (Nd × Nat) → Value} {X : List (Nd × Nat) → World → Prop} (h : RunX c w vt vp (fun _ => False) nest bud ns val id X r e w') : BackP c w vt vp nest bud ns val r e w' := by
  cases r with
  | error er => exact ⟨h.1, h.2.mono (fun x hx => hx.elim id (fun h => h.elim))⟩
  | ok v =>
    obtain ⟨ms, ts'⟩ := v
    obtain ⟨h1, -, i', vt', vp', h2, h3, h4⟩ := h
    exact ⟨h1, i', vt', vp', h2, h3.mono (fun x hx => hx.elim id (fun h => h.elim)), h4⟩

section
variable {c : PC} {w : World} {i nest bud : Nat} {vt vp : Value} {ts : List Tk} {ns : List (Nd × Nat)}

theorem PS.nestTo (h : PS c w i vt vp ts nest bud ns) {m : Nat} (hm : m ≤ 200) : PS c (w.setCell ⟨c.g, 2, none⟩ (.int .i64 (m : Int))) i vt vp ts m bud ns := h.store 2 _ rfl h.drop h.good hm h.bud_le

set_option maxHeartbeats 4000000 in
theorem nested_any {α : Type} (h : PS c w i vt vp ts nest bud ns) (hk : (hdT ts).kind ≠ 0) (n : Nat) (bs lb : Array Value) (hent : ∀ args w, (callFunc n args).run Tryz.prog w = .ok (.enter n args) w) (E : Nat → Prop) (more : α → List (Nd × Nat)) (X : α → World → Prop) (r : Except Er (α × List Tk))
    (hE : ∀ x, E x → x < w.heap.size) (hX : ∀ v W W', X v W → GB W W' (fun x => x = c.g ∨ w.heap.size ≤ x) → X v W')
    (hin : ∀ W i1 vt1 vp1, GB w W (foot c.g vt vp) → (∀ x, x < w.heap.size → foot c.g vt1 vp1 x → foot c.g vt vp x) → PS c W i1 vt1 vp1 ts.tail (nest + 1) (bud + 1) ns → Calls Tryz.prog n (bs ++ lb) W (RunX c W vt1 vp1 E (nest + 1) (bud + 1) ns (fun _ => .tuple #[]) more X r)) :
    Calls Tryz.prog 102 #[.pointer (some ⟨c.g, 0, none⟩), .func (.func n) bs lb] w (RunX c w vt vp E nest (bud + 1) ns (fun _ => .agg (tkC (hdT ts))) more X (opnV nest ts r)) := by
  have hn := h.nest_le
  have G := World.grownBy_alloc w (.cells #[.int .i64 0, .int .i64 0, .string ⟨#[]⟩, .int .u32 0] 42) none
  have RA := VAt.alloc w 42 #[.int .i64 0, .int .i64 0, .string ⟨#[]⟩, .int .u32 0]
  have H1 := h.keep G
  have HP : Hid (PS c w i vt vp ts nest bud ns) := h
  have HIN : Hid (∀ W i1 vt1 vp1, GB w W (foot c.g vt vp) → (∀ x, x < w.heap.size → foot c.g vt1 vp1 x → foot c.g vt vp x) → PS c W i1 vt1 vp1 ts.tail (nest + 1) (bud + 1) ns → Calls Tryz.prog n (bs ++ lb) W (RunX c W vt1 vp1 E (nest + 1) (bud + 1) ns (fun _ => .tuple #[]) more X r)) := hin
  have HX : Hid (∀ v W W', X v W → GB W W' (fun x => x = c.g ∨ w.heap.size ≤ x) → X v W') := hX
  have HK : Hid ((hdT ts).kind ≠ 0) := hk
  have HE : Hid (∀ x, E x → x < w.heap.size) := hE
  clear hin hX hk hE
  by_cases hd : nest = 200
  · unfold opnV
    rw [if_pos hd]
    have hd' : (200 : Int) ≤ (nest : Int) := by omega
    clear hd HIN HX h
    go_enter Tryz.func102, Tryz.ntmps102
    go_upto_region 1 with fail
    generalize w.alloc (.cells #[.int .i64 0, .int .i64 0, .string ⟨#[]⟩, .int .u32 0] 42) = W at *
    generalize w.heap.size = R at *
    have c2 : W.cell? ⟨c.g, 2, none⟩ = some (.int .i64 (nest : Int)) := H1.blk.cell 2
    go_wp2_with fail
    refine (giveUp_any H1 _).mono ?_
    rintro e w1 ⟨rfl, G1⟩
    go_wp2
    exact ⟨rfl, rfl, GB.non (grown_trans G G1)⟩
  · have e0 : opnV nest ts r = r := by rw [opnV, if_neg hd]
    rw [e0]
    go_enter Tryz.func102, Tryz.ntmps102
    go_upto_region 1 with fail
    generalize w.alloc (.cells #[.int .i64 0, .int .i64 0, .string ⟨#[]⟩, .int .u32 0] 42) = W at *
    obtain ⟨R, hR⟩ : ∃ R, w.heap.size = R := ⟨_, rfl⟩
    have HRW : Hid (R < W.heap.size) := by show R < W.heap.size; rw [← hR]; exact RA.lt
    rw [hR] at RA ⊢
    have HR2 : Hid (w.heap.size ≤ R) := Nat.le_of_eq hR
    clear h hR
    have c2 : W.cell? ⟨c.g, 2, none⟩ = some (.int .i64 (nest : Int)) := H1.blk.cell 2
    have f2 := H1.blk.free 2
    have hd' : ¬ (200 : Int) ≤ (nest : Int) := by omega
    have hw : IntKind.i64.wrap ((nest : Int) + 1) = ((nest + 1 : Nat) : Int) := by rw [IntKind.wrap_i64]; omega
    have H2 : PS c (W.setCell ⟨c.g, 2, none⟩ (.int .i64 ((nest : Int) + 1))) i vt vp ts (nest + 1) bud ns := H1.nestTo (m := nest + 1) (by omega)
    have RA2 := RA.grown (grown_set W c.g 2 (.int .i64 ((nest : Int) + 1))) (fun e => by have := Option.some.inj e; have := HP.out.blk.lt; have := HR2.out; omega)
    have G2 : GB w (W.setCell ⟨c.g, 2, none⟩ (.int .i64 ((nest : Int) + 1))) (foot c.g vt vp) := (GB.non G).trans (GB.set W vt vp c.g 2 _) (fun _ _ h => h)
    have HRW2 : Hid (R < (W.setCell ⟨c.g, 2, none⟩ (.int .i64 ((nest : Int) + 1))).heap.size) := Nat.lt_of_lt_of_le HRW.out (grown_set W c.g 2 (.int .i64 ((nest : Int) + 1))).size
    clear e0 hd H1 RA HRW G
    go_upto_region 4 with fail
    generalize W.setCell ⟨c.g, 2, none⟩ (.int .i64 ((nest : Int) + 1)) = w2 at *
    clear c2 f2 hd' hw
    go_wp2_with fail
    refine (take_any H2 HK.out).mono ?_
    rintro e w3 ⟨rfl, i3, vt3, vp3, H3, G3, F3⟩
    have RA3 := G3.vat RA2 (HP.out.not_foot HR2.out)
    have L2 := G2.size
    have G4 := G2.trans G3 (fun _ _ h => h)
    have F4 : ∀ x, x < w.heap.size → foot c.g vt3 vp3 x → foot c.g vt vp x := fun x hx => F3 x (Nat.lt_of_lt_of_le hx L2)
    have HF3 : Hid (¬ foot c.g vt3 vp3 R) := fun e => HP.out.not_foot HR2.out (F3 R HRW2.out e)
    have HRW3 : Hid (R < w3.heap.size) := Nat.lt_of_lt_of_le HRW2.out G3.size
    clear H2 RA2 G2 HRW2 G3 F3 L2
    unfold tkC
    obtain ⟨t, ht⟩ : ∃ t, hdT ts = t := ⟨_, rfl⟩
    have HT : Hid (hdT ts = t) := ht
    rw [ht]
    clear ht
    obtain ⟨tk, tp, tx, tn⟩ := t
    simp only
    have KA := World.grownBy_alloc w3 (.cells #[.int .i64 (tk : Int), .int .i64 (tp : Int), str tx, .int .u32 (tn : Int)] 42) none
    have VA := VAt.alloc w3 42 #[.int .i64 (tk : Int), .int .i64 (tp : Int), str tx, .int .u32 (tn : Int)]
    have H4 := H3.keep KA
    have RA4 := RA3.kept KA
    have G5 := G4.trans (GB.non (S := foot c.g vt vp) KA) (fun _ _ h => h)
    have HV : Hid (w.heap.size ≤ w3.heap.size ∧ ¬ foot c.g vt3 vp3 w3.heap.size ∧ w3.heap.size < (w3.alloc (.cells #[.int .i64 (tk : Int), .int .i64 (tp : Int), str tx, .int .u32 (tn : Int)] 42)).heap.size ∧ R < (w3.alloc (.cells #[.int .i64 (tk : Int), .int .i64 (tp : Int), str tx, .int .u32 (tn : Int)] 42)).heap.size) := ⟨G4.size, H3.not_foot (Nat.le_refl _), VA.lt, RA4.lt⟩
    clear H3 RA3 G4 HRW3
    go_upto_region 5 with fail
    generalize w3.alloc (.cells #[.int .i64 (tk : Int), .int .i64 (tp : Int), .string ⟨tx.toArray⟩, .int .u32 (tn : Int)] 42) = w4 at *
    generalize w3.heap.size = V at *
    clear KA
    have CI := HIN.out w4 i3 vt3 vp3 G5 F4 H4
    clear HIN
    go_wp2_with fail
    refine CI.mono ?_
    clear CI
    have HG5 : Hid (GB w w4 (foot c.g vt vp)) := G5
    have HF4 : Hid (∀ x, x < w.heap.size → foot c.g vt3 vp3 x → foot c.g vt vp x) := F4
    have HH4 : Hid (PS c w4 i3 vt3 vp3 ts.tail (nest + 1) (bud + 1) ns) := H4
    clear G5 F4 H4
    cases r with
    | error er =>
      rintro e w5 ⟨rfl, G6⟩
      go_wp2
      exact ⟨rfl, rfl, (HG5.out.mono (fun x hx => Or.inl hx)).trans G6 (fun x hx h => h.elim (fun h => .inl (HF4.out x hx h)) .inr)⟩
    | ok v =>
      obtain ⟨v, ts'⟩ := v
      rintro e w5 ⟨rfl, X5, i5, vt5, vp5, H5, G6, F6⟩
      have RA5 := G6.vat RA4 (fun h => h.elim HF3.out (fun h => by have := HE.out _ h; have := HR2.out; omega))
      have VA5 := G6.vat VA (fun h => h.elim HV.out.2.1 (fun h => by have := HE.out _ h; have := HV.out.1; omega))
      have HF5 : Hid (¬ foot c.g vt5 vp5 R) := fun e => HF3.out (F6 R HV.out.2.2.2 e)
      have G7 : GB w w5 (fun x => foot c.g vt vp x ∨ E x) := (HG5.out.mono (fun x hx => Or.inl hx)).trans G6 (fun x hx h => h.elim (fun h => .inl (HF4.out x hx h)) .inr)
      have F7 : ∀ x, x < w.heap.size → foot c.g vt5 vp5 x → foot c.g vt vp x := fun x hx h => HF4.out x hx (F6 x (Nat.lt_of_lt_of_le hx HG5.out.size) h)
      have c2 : w5.cell? ⟨c.g, 2, none⟩ = some (.int .i64 ((nest + 1 : Nat) : Int)) := H5.blk.cell 2
      have f2 := H5.blk.free 2
      have hw : IntKind.i64.wrap (((nest + 1 : Nat) : Int) - 1) = (nest : Int) := by rw [IntKind.wrap_i64]; omega
      have hw2 : ((nest + 1 : Nat) : Int) - 1 = (nest : Int) := by omega
      have H6 := H5.nestTo (m := nest) hn
      have hgR : R ≠ c.g := fun e => by have := HP.out.blk.lt; have := HR2.out; omega
      have hgV : V ≠ c.g := fun e => by have := HP.out.blk.lt; have := HV.out.1; omega
      have K6 := grown_set w5 c.g 2 (.int .i64 (nest : Int))
      have RA6 := RA5.grown K6 (fun e => hgR (Option.some.inj e).symm)
      have VA6 := VA5.grown K6 (fun e => hgV (Option.some.inj e).symm)
      have HQ : Hid (PS c (w5.setCell ⟨c.g, 2, none⟩ (.int .i64 (nest : Int))) i5 vt5 vp5 ts' nest (bud + 1) (ns ++ more v) ∧ X v w5 ∧ GB w w5 (fun x => foot c.g vt vp x ∨ E x) ∧ (∀ x, x < w.heap.size → foot c.g vt5 vp5 x → foot c.g vt vp x) ∧ w5.grownBy (w5.setCell ⟨c.g, 2, none⟩ (.int .i64 (nest : Int))) (some c.g)) := ⟨H6, X5, G7, F7, K6⟩
      clear HG5 HF4 HH4 X5 H5 G6 F6 RA4 VA RA5 VA5 G7 F7 H6 K6
      go_upto_region 7 with fail
      generalize w5.setCell ⟨c.g, 2, none⟩ (.int .i64 (nest : Int)) = w6 at *
      go_wp2_with (first
        | refine wpList_load_row rfl 42 (.tmp 5) rfl V rfl 42 _ (0, 0) _ VA6 Tryz.underlying42 rfl sizeTk ?_
        | refine wpList_store_row rfl 42 (.tmp 4) (.tmp 35) rfl R (tkC ⟨tk, tp, tx, tn⟩) rfl rfl 42 _ RA6 sizeTk rfl (tkC_all _) ?_)
      refine bodyPost_ret (retRow1 rfl _ _ R _ _ rfl (RA6.setRow _) Tryz.underlying42 rfl sizeTk) rfl ?_
      obtain ⟨H6, X5, G7, F7, K6⟩ := HQ.out
      have K7 := vgrown_setRow (World.grownBy.refl w6 (some R)) R (tkC ⟨tk, tp, tx, tn⟩) (.inl rfl)
      have K8 : GB w5 (w6.setRow R (tkC ⟨tk, tp, tx, tn⟩)) (fun x => x = c.g ∨ w.heap.size ≤ x) := (GB.of K6 (S := fun x => x = c.g ∨ w.heap.size ≤ x) (fun x hx => by cases hx; exact .inl rfl)).trans (GB.of K7 (S := fun x => x = c.g ∨ w.heap.size ≤ x) (fun x hx => by cases hx; exact .inr HR2.out)) (fun _ _ h => h)
      refine ⟨by rw [HT.out], HX.out v _ _ X5 K8, i5, vt5, vp5, H6.away K7 HF5.out (fun e => by have := HP.out.toks_lt e; have := HR2.out; omega) (Nat.le_trans HP.out.grown.size HR2.out), ?_, F7⟩
      exact G7.trans K8 (fun x hx h => by
        rcases h with rfl | h
        · exact .inl (.inl rfl)
        · omega)

end
end Go.Proofs.YtbdmpjnlgdahmaaGreatDoor

namespace Go.Proofs.YtbdmpjnlgdahmaaGreatDoor
open Go.RowKit
set_option maxRecDepth 100000

/-- A function value that reads. -/
def FnR (c : PC) (v : Value) (r : Nat → List Tk → Out) : Prop := ∃ (n : Nat) (bs lb : Array Value), v = .func (.func n) bs lb ∧ (∀ args w, (callFunc n args).run Tryz.prog w = .ok (.enter n args) w) ∧
  ∀ (W : World) (i : Nat) (vt vp : Value) (ts : List Tk) (nest bud : Nat) (ns : List (Nd × Nat)), PS c W i vt vp ts nest bud ns → r nest ts ≠ .error exP → Calls Tryz.prog n (bs ++ lb) W (RunP c W vt vp nest bud ns (r nest ts))

/-- An operator: its text, the node's kind and operation. -/
abbrev Op3 := List UInt8 × Nat × Nat
def Op3.nd (o : Op3) : Nd := { ndK o.2.1 with op := o.2.2 }
def o3 (o : Op3) : List Value := [str o.1, .int .i64 (o.2.1 : Int), .int .i64 (o.2.2 : Int)]
def flatO (os : List Op3) : List Value := os.flatMap o3
theorem flatO_len (os : List Op3) : (flatO os).length = os.length * 3 := by
  induction os with
  | nil => rfl
  | cons x xs ih => simp only [flatO, List.flatMap_cons, List.length_append, List.length_cons] at *; rw [ih]; simp [o3]; omega
theorem flatO_get (os : List Op3) (i j : Nat) (hi : i < os.length) (hj : j < 3) : (flatO os)[i * 3 + j]? = (o3 os[i])[j]? := by
  induction os generalizing i with
  | nil => simp at hi
  | cons x xs ih =>
    have e : flatO (x :: xs) = o3 x ++ flatO xs := rfl
    rw [e]
    have hl : (o3 x).length = 3 := rfl
    cases i with
    | zero => rw [List.getElem?_append_left (by omega)]; simp
    | succ i =>
      rw [List.getElem?_append_right (by omega), hl, show (i + 1) * 3 + j - 3 = i * 3 + j by omega, ih i (by simpa using hi)]
      simp
theorem CV.opers {w : World} {ao : Option Addr} {os : List Op3} (h : CV w ao (flatO os)) {k : Nat} (hk : k < os.length) :
    ∃ b off, ao = some ⟨b, off, none⟩ ∧ w.cell? ⟨b, off + k * 3, none⟩ = some (str os[k].1) ∧ w.cell? ⟨b, off + k * 3 + 1, none⟩ = some (.int .i64 (os[k].2.1 : Int)) ∧ w.cell? ⟨b, off + k * 3 + 2, none⟩ = some (.int .i64 (os[k].2.2 : Int)) := by
  have hl := flatO_len os
  obtain ⟨b, off, hao, hc⟩ := h.addr (k := k * 3) (by omega)
  have key : ∀ j (hj : j < 3), w.cell? ⟨b, off + k * 3 + j, none⟩ = (o3 os[k])[j]? := fun j hj => by
    rw [← flatO_get os k j hk hj, Nat.add_assoc, hc (k * 3 + j) (by omega), List.getElem?_eq_getElem (by omega)]
  exact ⟨b, off, hao, key 0 (by omega), key 1 (by omega), key 2 (by omega)⟩
/-- The operator that stands there. -/
def findO (os : List Op3) (x : List UInt8) : Option Nd := (os.find? fun o => decide (o.1 = x)).map Op3.nd
theorem findO_hit {os : List Op3} {x : List UInt8} {k : Nat} (hk : k < os.length) (hx : os[k].1 = x) (hn : ∀ j (hj : j < os.length), j < k → os[j].1 ≠ x) : findO os x = some os[k].nd := by
  unfold findO
  have : os.find? (fun o => decide (o.1 = x)) = some os[k] := by
    rw [List.find?_eq_some_iff_getElem]
    refine ⟨by simpa using hx, k, hk, rfl, fun j hj => ?_⟩
    have := hn j (by omega) hj
    simpa using this
  rw [this]
  rfl
theorem findO_no {os : List Op3} {x : List UInt8} (hn : ∀ j (hj : j < os.length), os[j].1 ≠ x) : findO os x = none := by
  unfold findO
  have : os.find? (fun o => decide (o.1 = x)) = none := by
    rw [List.find?_eq_none]
    intro o ho
    obtain ⟨j, hj, rfl⟩ := List.getElem_of_mem ho
    simpa using hn j hj
  rw [this]
  rfl
theorem op3_cells (x : List UInt8) (k o : Nat) : (Op3.nd (x, k, o)).cells = [.int .i64 (k : Int), .int .i64 (o : Int), .int .u32 0, .int .u32 0, .int .i64 0, .int .i64 0, .int .i64 0, .int .u8 0, .int .u8 0, .int .u8 0, .int .u8 0, .int .u8 0, .int .u8 0, .int .u8 0, .int .u8 0, .int .u8 0, .int .u8 0, .int .u8 0, .int .u8 0, .int .u8 0, .int .u8 0, .int .u8 0, .int .u8 0, .int .i64 0] := by kernel_rfl

/-- What comes of one more operator and the part behind it. -/
def FurP (c : PC) (w : World) (vt vp : Value) (nest bud : Nat) (ns : List (Nd × Nat)) (p : Nat) (f : Option Nd) (r : Out) (e : Ending) (w' : World) : Prop := match f with
  | none => e = .returned (.bool false) ∧ w.grownBy w' none
  | some nd => match r with
    | .ok (ms, ts') => e = .returned (.bool true) ∧ Ret c w vt vp ts' nest bud (ns ++ ms ++ [(nd, p)]) w'
    | .error er => e = .panicked (PanS er) ∧ GB w w' (foot c.g vt vp)

section
variable {c : PC} {w : World} {i nest bud : Nat} {vt vp : Value} {ts : List Tk} {ns : List (Nd × Nat)}

set_option maxHeartbeats 8000000 in
theorem further_any (h : PS c w i vt vp ts nest bud ns) (n : Nat) (bs lb : Array Value) (hent : ∀ args w, (callFunc n args).run Tryz.prog w = .ok (.enter n args) w) (rec : Nat → List Tk → Out)
    (hin : ∀ (W : World) (i : Nat) (vt vp : Value) (ts : List Tk) (nest bud : Nat) (ns : List (Nd × Nat)), PS c W i vt vp ts nest bud ns → rec nest ts ≠ .error exP → Calls Tryz.prog n (bs ++ lb) W (RunP c W vt vp nest bud ns (rec nest ts)))
    (a : Option Addr) (ca : Nat) (os : List Op3) (ha : CV w a (flatO os)) (hos : ∀ o ∈ os, Asked o.1) (hm : os.length ≤ 1000) (hr : findO os (hdT ts).text ≠ none → rec nest ts.tail ≠ .error exP) :
    Calls Tryz.prog 67 #[.pointer (some ⟨c.g, 0, none⟩), .func (.func n) bs lb, .slice a os.length ca] w (FurP c w vt vp nest bud ns (hdT ts).pos (findO os (hdT ts).text) (rec nest ts.tail)) := by
  have HP : Hid (PS c w i vt vp ts nest bud ns) := h
  have HA : Hid (CV w a (flatO os)) := ha
  have HIN : Hid (∀ (W : World) (i : Nat) (vt vp : Value) (ts : List Tk) (nest bud : Nat) (ns : List (Nd × Nat)), PS c W i vt vp ts nest bud ns → rec nest ts ≠ .error exP → Calls Tryz.prog n (bs ++ lb) W (RunP c W vt vp nest bud ns (rec nest ts))) := hin
  have HR : Hid (findO os (hdT ts).text ≠ none → rec nest ts.tail ≠ .error exP) := hr
  have HOS : Hid (∀ o ∈ os, Asked o.1) := hos
  obtain ⟨fo, hfo⟩ : ∃ f, findO os (hdT ts).text = f := ⟨_, rfl⟩
  have HFO : Hid (findO os (hdT ts).text = fo) := hfo
  rw [hfo]
  obtain ⟨rr, hrr⟩ : ∃ r, rec nest ts.tail = r := ⟨_, rfl⟩
  have HRR : Hid (rec nest ts.tail = rr) := hrr
  rw [hrr]
  obtain ⟨pp, hpp⟩ : ∃ p, (hdT ts).pos = p := ⟨_, rfl⟩
  have HPP : Hid ((hdT ts).pos = pp) := hpp
  rw [hpp]
  clear h ha hin hr hos hfo hrr hpp
  go_enter Tryz.func67, Tryz.ntmps67
  go_wp2
  go_loopw [12] (fun j wr => ∃ k : Nat, k ≤ os.length ∧ j = .int .i64 k ∧ Hid (∀ j (hj : j < os.length), j < k → os[j].1 ≠ (hdT ts).text) ∧ w.grownBy wr none) (fun j _ => os.length - (intOf j).toNat)
  case atStart => exact ⟨0, Nat.zero_le _, rfl, fun j _ hj => by omega, World.grownBy.refl _ _⟩
  case round =>
    obtain ⟨k, hk, rfl, HI, G⟩ := hrel
    by_cases hlt : k < os.length
    · obtain ⟨b, o, rfl, c0, c1, c2⟩ := (HA.out.keptNone G).opers hlt
      have hl : (k : Int) < (os.length : Int) := by omega
      have HASK : Hid (Asked os[k].1) := HOS.out _ (List.getElem_mem hlt)
      have HHIT : Hid (os[k].1 = (hdT ts).text → fo = some os[k].nd) := fun e => by rw [← HFO.out]; exact findO_hit hlt e HI.out
      have HMISS : Hid (os[k].1 ≠ (hdT ts).text → ∀ j (hj : j < os.length), j < k + 1 → os[j].1 ≠ (hdT ts).text) := fun e j hj hj2 => by
        by_cases e2 : j = k
        · subst e2; exact e
        · exact HI.out j hj (by omega)
      clear HI
      generalize os[k] = ok at *
      obtain ⟨ox, ok, oo⟩ := ok
      simp only at *
      have KA := World.grownBy_alloc wr (.cells #[str ox, .int .i64 (ok : Int), .int .i64 (oo : Int)] 80) none
      have VA := VAt.alloc wr 80 #[str ox, .int .i64 (ok : Int), .int .i64 (oo : Int)]
      have G1 := grown_trans G KA
      have HV : Hid (w.heap.size ≤ wr.heap.size) := G.size
      go_upto_region 4 with fail
      generalize wr.alloc (.cells #[.string ⟨ox.toArray⟩, .int .i64 (ok : Int), .int .i64 (oo : Int)] 80) = w1 at *
      generalize wr.heap.size = V at *
      have HCS : Hid (∀ W ad, w1.grownBy W none → CV W (some ad) [str ox] → Calls Tryz.prog 87 #[.pointer (some ⟨c.g, 0, none⟩), .slice (some ad) 1 1] W fun e w' => e = .returned (.bool (decide (ox = (hdT ts).text))) ∧ W.grownBy w' none) := fun W ad GW hW => by
        have := stands_any (HP.out.keep (grown_trans G1 GW)) (some ad) 1 [ox] hW (by simp)
        rw [show decide ((hdT ts).text ∈ [ox]) = decide (ox = (hdT ts).text) by simp [eq_comm]] at this
        exact this
      have o0 : w1.cell? ⟨V, 0, none⟩ = some (str ox) := VA.cell 0
      have HG1 : Hid (w.grownBy w1 none) := G1
      have HVA : Hid (VAt w1 V 80 #[str ox, .int .i64 (ok : Int), .int .i64 (oo : Int)]) := VA
      clear G KA c0 c1 c2 G1 VA HA
      by_cases he : ox = (hdT ts).text
      · have HN : Hid (fo = some (Op3.nd (ox, ok, oo)) ∧ rec nest ts.tail ≠ .error exP ∧ (hdT ts).kind ≠ 0) := by
          have e1 := HHIT.out he
          refine ⟨e1, HR.out (by rw [HFO.out, e1]; simp), ?_⟩
          exact isB_k0 (x := ox) (by rw [asked_is HP.out.good.hd HASK.out]; simpa using he.symm)
        rw [decide_eq_true he] at HCS
        clear he HHIT HMISS
        go_region_law ((go_simp; go_at_call 87; refine (HCS.out _ ⟨w1.heap.size, 0, none⟩ (by exact grown_trans (grown_drewN w1 1 none) (World.grownBy_alloc w1.drew _ none)) (by exact cv_lit w1.drew _ _)).mono ?_; rintro e w2 ⟨rfl, G2'⟩; have G2 : w1.grownBy w2 none := grown_trans (grown_trans (grown_drewN w1 1 none) (World.grownBy_alloc w1.drew (.cells #[str ox] 9) none)) G2'))
        have G3 := grown_trans HG1.out G2
        have P2 := HP.out.keep G3
        have VA2 := HVA.out.kept G2
        clear G2 G2' HG1 HVA HCS o0
        go_wp2_with fail
        refine (take_any P2 HN.out.2.2).mono ?_
        rintro e w3 ⟨rfl, i3, vt3, vp3, H3, G4, F4⟩
        have VA3 := G4.vat VA2 (HP.out.not_foot HV.out)
        have HF3 : Hid (¬ foot c.g vt3 vp3 V) := fun e => HP.out.not_foot HV.out (F4 V VA2.lt e)
        have G5 : GB w w3 (foot c.g vt vp) := (GB.non G3).trans G4 (fun _ _ h => h)
        have F5 : ∀ x, x < w.heap.size → foot c.g vt3 vp3 x → foot c.g vt vp x := fun x hx => F4 x (Nat.lt_of_lt_of_le hx G3.size)
        clear P2 VA2 G4 F4 G3
        unfold tkC
        obtain ⟨t, ht⟩ : ∃ t, hdT ts = t := ⟨_, rfl⟩
        have HT : Hid (hdT ts = t) := ht
        rw [ht]
        clear ht
        obtain ⟨tk, tp, tx, tn⟩ := t
        simp only
        have KA := World.grownBy_alloc w3 (.cells #[.int .i64 (tk : Int), .int .i64 (tp : Int), str tx, .int .u32 (tn : Int)] 42) none
        have VM := VAt.alloc w3 42 #[.int .i64 (tk : Int), .int .i64 (tp : Int), str tx, .int .u32 (tn : Int)]
        have H4 := H3.keep KA
        have VA4 := VA3.kept KA
        have G6 := G5.trans (GB.non (S := foot c.g vt vp) KA) (fun _ _ h => h)
        have HM : Hid (¬ foot c.g vt3 vp3 w3.heap.size) := H3.not_foot (Nat.le_refl _)
        clear H3 VA3 G5
        go_upto_region 6 with fail
        generalize w3.alloc (.cells #[.int .i64 (tk : Int), .int .i64 (tp : Int), .string ⟨tx.toArray⟩, .int .u32 (tn : Int)] 42) = w4 at *
        generalize w3.heap.size = M at *
        have CI := HIN.out w4 i3 vt3 vp3 ts.tail nest (bud + 1) ns H4 HN.out.2.1
        rw [HRR.out] at CI
        have HG6 : Hid (GB w w4 (foot c.g vt vp) ∧ ∀ x, x < w.heap.size → foot c.g vt3 vp3 x → foot c.g vt vp x) := ⟨G6, F5⟩
        clear HIN KA G6 F5 H4
        go_wp2_with fail
        refine CI.mono ?_
        clear CI
        cases rr with
        | error er =>
          rintro e w5 ⟨rfl, G7⟩
          go_wp2
          refine ⟨rfl, ?_⟩
          rw [HN.out.1]
          exact ⟨rfl, HG6.out.1.trans G7 HG6.out.2⟩
        | ok v =>
          obtain ⟨ms, ts'⟩ := v
          rintro e w5 ⟨rfl, i5, vt5, vp5, H5, G7, F7⟩
          have VM5 := G7.vat VM HM.out
          have VA5 := G7.vat VA4 HF3.out
          have G8 := HG6.out.1.trans G7 HG6.out.2
          have F8 : ∀ x, x < w.heap.size → foot c.g vt5 vp5 x → foot c.g vt vp x := fun x hx h => HG6.out.2 x hx (F7 x (Nat.lt_of_lt_of_le hx HG6.out.1.size) h)
          have HG8 : Hid (GB w w5 (foot c.g vt vp) ∧ ∀ x, x < w.heap.size → foot c.g vt5 vp5 x → foot c.g vt vp x) := ⟨G8, F8⟩
          have o1 : w5.cell? ⟨V, 1, none⟩ = some (.int .i64 (ok : Int)) := VA5.cell 1
          have o2 : w5.cell? ⟨V, 2, none⟩ = some (.int .i64 (oo : Int)) := VA5.cell 2
          have CP := put_any H5 ⟨tk, tp, tx, tn⟩ (Op3.nd (ox, ok, oo))
          rw [op3_cells] at CP
          unfold tkC at CP
          clear HG6 H5 G7 F7 VM VA4 VA5 G8 F8
          go_wp2_with (refine wpList_load_row rfl 42 (.tmp 9) rfl M rfl 42 _ (0, 0) _ VM5 Tryz.underlying42 rfl sizeTk ?_)
          refine CP.mono ?_
          rintro e w6 ⟨rfl, R6⟩
          clear CP
          go_wp2
          go_ret
          rw [HN.out.1]
          refine ⟨rfl, ?_⟩
          have e3 : pp = tp := by rw [← HPP.out, HT.out]
          rw [e3]
          exact Ret.of HG8.out.1 HG8.out.2 R6
      · have HN : Hid (∀ j (hj : j < os.length), j < k + 1 → os[j].1 ≠ (hdT ts).text) := HMISS.out he
        rw [decide_eq_false he] at HCS
        clear he HHIT HMISS
        go_region_law ((go_simp; go_at_call 87; refine (HCS.out _ ⟨w1.heap.size, 0, none⟩ (by exact grown_trans (grown_drewN w1 1 none) (World.grownBy_alloc w1.drew _ none)) (by exact cv_lit w1.drew _ _)).mono ?_; rintro e w2 ⟨rfl, G2'⟩; have G2 : w1.grownBy w2 none := grown_trans (grown_trans (grown_drewN w1 1 none) (World.grownBy_alloc w1.drew (.cells #[str ox] 9) none)) G2'))
        have G3 := grown_trans HG1.out G2
        clear G2 G2' HCS o0 HG1 HVA
        go_wp2
        go_roundw
        case rel => exact ⟨k + 1, by omega, by go_num, HN, G3⟩
        case measure => simp [intOf]; omega
    · have HN : Hid (fo = none) := by
        show fo = none
        rw [← HFO.out]
        exact findO_no (fun j hj => HI.out j hj (by omega))
      have hl : ¬ (k : Int) < (os.length : Int) := by omega
      clear HI HA
      go_wp2
      go_ret
      rw [HN.out]
      exact ⟨rfl, G⟩

end
end Go.Proofs.YtbdmpjnlgdahmaaGreatDoor
