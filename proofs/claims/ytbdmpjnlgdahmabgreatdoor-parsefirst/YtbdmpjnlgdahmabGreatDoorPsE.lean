/-
  The landed parser: what opens and what is inside.
-/
import Derived.Test.YtbdmpjnlgdahmabGreatDoorPsD
namespace Go.Proofs.YtbdmpjnlgdahmabGreatDoor
open Go.RowKit
set_option maxRecDepth 100000

/-- What a reading comes to that tells something, makes nodes, and may write other blocks. -/
def RunX {α : Type} (c : PC) (w : World) (vt vp : Value) (E : Nat → Prop) (nest bud : Nat) (ns : List (Nd × Nat)) (val : α → Value) (more : α → List (Nd × Nat)) (X : α → World → Prop) (r : Except Er (α × List Tk)) (e : Ending) (w' : World) : Prop := match r with
  | .ok (v, ts') => e = .returned (val v) ∧ X v w' ∧ ∃ i' vt' vp', PS c w' i' vt' vp' ts' nest bud (ns ++ more v) ∧ GB w w' (fun x => foot c.g vt vp x ∨ E x) ∧ ∀ x, x < w.heap.size → foot c.g vt' vp' x → foot c.g vt vp x
  | .error er => e = .panicked (PanS er) ∧ GB w w' (fun x => foot c.g vt vp x ∨ E x)
theorem RunX.of_run {c : PC} {w : World} {vt vp : Value} {nest bud : Nat} {ns : List (Nd × Nat)} {r : Out} {e : Ending} {w' : World} (h : RunP c w vt vp nest bud ns r e w') : RunX c w vt vp (fun _ => False) nest bud ns (fun _ => .tuple #[]) id (fun _ _ => True) r e w' := by
  cases r with
  | error er => exact ⟨h.1, h.2.mono (fun x hx => .inl hx)⟩
  | ok v =>
    obtain ⟨ms, ts'⟩ := v
    obtain ⟨h1, i', vt', vp', h2, h3, h4⟩ := h
    exact ⟨h1, trivial, i', vt', vp', h2, h3.mono (fun x hx => .inl hx), h4⟩
def BackP (c : PC) (w : World) (vt vp : Value) (nest bud : Nat) (ns : List (Nd × Nat)) (val : List (Nd × Nat) → Value) (r : Out) (e : Ending) (w' : World) : Prop := match r with
  | .ok (ms, ts') => e = .returned (val ms) ∧ Ret c w vt vp ts' nest bud (ns ++ ms) w'
  | .error er => e = .panicked (PanS er) ∧ GB w w' (foot c.g vt vp)
theorem RunX.back {c : PC} {w : World} {vt vp : Value} {nest bud : Nat} {ns : List (Nd × Nat)} {r : Out} {e : Ending} {w' : World} {val : List (Nd × Nat) → Value} {X : List (Nd × Nat) → World → Prop} (h : RunX c w vt vp (fun _ => False) nest bud ns val id X r e w') : BackP c w vt vp nest bud ns val r e w' := by
  cases r with
  | error er => exact ⟨h.1, h.2.mono (fun x hx => hx.elim id (fun h => h.elim))⟩
  | ok v =>
    obtain ⟨ms, ts'⟩ := v
    obtain ⟨h1, -, i', vt', vp', h2, h3, h4⟩ := h
    exact ⟨h1, i', vt', vp', h2, h3.mono (fun x hx => hx.elim id (fun h => h.elim)), h4⟩

section
variable {c : PC} {w : World} {i nest bud : Nat} {vt vp : Value} {ts : List Tk} {ns : List (Nd × Nat)}

theorem PS.nestTo (h : PS c w i vt vp ts nest bud ns) {m : Nat} (hm : m ≤ 200) : PS c (w.setCell ⟨c.g, 2, none⟩ (.int .i64 (m : Int))) i vt vp ts m bud ns := h.store 2 _ rfl h.drop h.good hm h.bud_le

set_option maxHeartbeats 4000000 in
theorem nested_any {α : Type} (h : PS c w i vt vp ts nest bud ns) (hk : (hdT ts).kind ≠ 0) (n : Nat) (bs lb : Array Value) (hent : ∀ args w, (callFunc n args).run Tryz.prog w = .ok (.enter n args) w) (E : Nat → Prop) (more : α → List (Nd × Nat)) (X : α → World → Prop) (r : Except Er (α × List Tk))
    (hE : ∀ x, E x → x < w.heap.size) (hX : ∀ v W W', X v W → GB W W' (fun x => x = c.g ∨ w.heap.size ≤ x) → X v W')
    (hin : ∀ W i1 vt1 vp1, GB w W (foot c.g vt vp) → (∀ x, x < w.heap.size → foot c.g vt1 vp1 x → foot c.g vt vp x) → PS c W i1 vt1 vp1 ts.tail (nest + 1) (bud + 1) ns → Calls Tryz.prog n (bs ++ lb) W (RunX c W vt1 vp1 E (nest + 1) (bud + 1) ns (fun _ => .tuple #[]) more X r)) :
    Calls Tryz.prog 42 #[.pointer (some ⟨c.g, 0, none⟩), .func (.func n) bs lb] w (RunX c w vt vp E nest (bud + 1) ns (fun _ => .agg (tkC (hdT ts))) more X (opnV nest ts r)) := by
  have hn := h.nest_le
  have G := World.grownBy_alloc w (.cells #[.int .i64 0, .int .i64 0, .string ⟨#[]⟩, .int .u32 0] 33) none
  have RA := VAt.alloc w 33 #[.int .i64 0, .int .i64 0, .string ⟨#[]⟩, .int .u32 0]
  have H1 := h.keep G
  have HP : Hid (PS c w i vt vp ts nest bud ns) := h
  have HIN : Hid (∀ W i1 vt1 vp1, GB w W (foot c.g vt vp) → (∀ x, x < w.heap.size → foot c.g vt1 vp1 x → foot c.g vt vp x) → PS c W i1 vt1 vp1 ts.tail (nest + 1) (bud + 1) ns → Calls Tryz.prog n (bs ++ lb) W (RunX c W vt1 vp1 E (nest + 1) (bud + 1) ns (fun _ => .tuple #[]) more X r)) := hin
  have HX : Hid (∀ v W W', X v W → GB W W' (fun x => x = c.g ∨ w.heap.size ≤ x) → X v W') := hX
  have HK : Hid ((hdT ts).kind ≠ 0) := hk
  have HE : Hid (∀ x, E x → x < w.heap.size) := hE
  clear hin hX hk hE
  by_cases hd : nest = 200
  · unfold opnV
    rw [if_pos hd]
    have hd' : (200 : Int) ≤ (nest : Int) := by omega
    clear hd HIN HX h
    go_enter Tryz.func42, Tryz.ntmps42
    go_upto_region 1 with fail
    generalize w.alloc (.cells #[.int .i64 0, .int .i64 0, .string ⟨#[]⟩, .int .u32 0] 33) = W at *
    generalize w.heap.size = R at *
    have c2 : W.cell? ⟨c.g, 2, none⟩ = some (.int .i64 (nest : Int)) := H1.blk.cell 2
    go_wp2_with fail
    refine (giveUp_any H1 _).mono ?_
    rintro e w1 ⟨rfl, G1⟩
    go_wp2
    exact ⟨rfl, rfl, GB.non (grown_trans G G1)⟩
  · have e0 : opnV nest ts r = r := by rw [opnV, if_neg hd]
    rw [e0]
    go_enter Tryz.func42, Tryz.ntmps42
    go_upto_region 1 with fail
    generalize w.alloc (.cells #[.int .i64 0, .int .i64 0, .string ⟨#[]⟩, .int .u32 0] 33) = W at *
    obtain ⟨R, hR⟩ : ∃ R, w.heap.size = R := ⟨_, rfl⟩
    have HRW : Hid (R < W.heap.size) := by show R < W.heap.size; rw [← hR]; exact RA.lt
    rw [hR] at RA ⊢
    have HR2 : Hid (w.heap.size ≤ R) := Nat.le_of_eq hR
    clear h hR
    have c2 : W.cell? ⟨c.g, 2, none⟩ = some (.int .i64 (nest : Int)) := H1.blk.cell 2
    have f2 := H1.blk.free 2
    have hd' : ¬ (200 : Int) ≤ (nest : Int) := by omega
    have hw : IntKind.i64.wrap ((nest : Int) + 1) = ((nest + 1 : Nat) : Int) := by rw [IntKind.wrap_i64]; omega
    have H2 : PS c (W.setCell ⟨c.g, 2, none⟩ (.int .i64 ((nest : Int) + 1))) i vt vp ts (nest + 1) bud ns := H1.nestTo (m := nest + 1) (by omega)
    have RA2 := RA.grown (grown_set W c.g 2 (.int .i64 ((nest : Int) + 1))) (fun e => by have := Option.some.inj e; have := HP.out.blk.lt; have := HR2.out; omega)
    have G2 : GB w (W.setCell ⟨c.g, 2, none⟩ (.int .i64 ((nest : Int) + 1))) (foot c.g vt vp) := (GB.non G).trans (GB.set W vt vp c.g 2 _) (fun _ _ h => h)
    have HRW2 : Hid (R < (W.setCell ⟨c.g, 2, none⟩ (.int .i64 ((nest : Int) + 1))).heap.size) := Nat.lt_of_lt_of_le HRW.out (grown_set W c.g 2 (.int .i64 ((nest : Int) + 1))).size
    clear e0 hd H1 RA HRW G
    go_upto_region 4 with fail
    generalize W.setCell ⟨c.g, 2, none⟩ (.int .i64 ((nest : Int) + 1)) = w2 at *
    clear c2 f2 hd' hw
    go_wp2_with fail
    refine (take_any H2 HK.out).mono ?_
    rintro e w3 ⟨rfl, i3, vt3, vp3, H3, G3, F3⟩
    have RA3 := G3.vat RA2 (HP.out.not_foot HR2.out)
    have L2 := G2.size
    have G4 := G2.trans G3 (fun _ _ h => h)
    have F4 : ∀ x, x < w.heap.size → foot c.g vt3 vp3 x → foot c.g vt vp x := fun x hx => F3 x (Nat.lt_of_lt_of_le hx L2)
    have HF3 : Hid (¬ foot c.g vt3 vp3 R) := fun e => HP.out.not_foot HR2.out (F3 R HRW2.out e)
    have HRW3 : Hid (R < w3.heap.size) := Nat.lt_of_lt_of_le HRW2.out G3.size
    clear H2 RA2 G2 HRW2 G3 F3 L2
    unfold tkC
    obtain ⟨t, ht⟩ : ∃ t, hdT ts = t := ⟨_, rfl⟩
    have HT : Hid (hdT ts = t) := ht
    rw [ht]
    clear ht
    obtain ⟨tk, tp, tx, tn⟩ := t
    simp only
    have KA := World.grownBy_alloc w3 (.cells #[.int .i64 (tk : Int), .int .i64 (tp : Int), str tx, .int .u32 (tn : Int)] 33) none
    have VA := VAt.alloc w3 33 #[.int .i64 (tk : Int), .int .i64 (tp : Int), str tx, .int .u32 (tn : Int)]
    have H4 := H3.keep KA
    have RA4 := RA3.kept KA
    have G5 := G4.trans (GB.non (S := foot c.g vt vp) KA) (fun _ _ h => h)
    have HV : Hid (w.heap.size ≤ w3.heap.size ∧ ¬ foot c.g vt3 vp3 w3.heap.size ∧ w3.heap.size < (w3.alloc (.cells #[.int .i64 (tk : Int), .int .i64 (tp : Int), str tx, .int .u32 (tn : Int)] 33)).heap.size ∧ R < (w3.alloc (.cells #[.int .i64 (tk : Int), .int .i64 (tp : Int), str tx, .int .u32 (tn : Int)] 33)).heap.size) := ⟨G4.size, H3.not_foot (Nat.le_refl _), VA.lt, RA4.lt⟩
    clear H3 RA3 G4 HRW3
    go_upto_region 5 with fail
    generalize w3.alloc (.cells #[.int .i64 (tk : Int), .int .i64 (tp : Int), .string ⟨tx.toArray⟩, .int .u32 (tn : Int)] 33) = w4 at *
    generalize w3.heap.size = V at *
    clear KA
    have CI := HIN.out w4 i3 vt3 vp3 G5 F4 H4
    clear HIN
    go_wp2_with fail
    refine CI.mono ?_
    clear CI
    have HG5 : Hid (GB w w4 (foot c.g vt vp)) := G5
    have HF4 : Hid (∀ x, x < w.heap.size → foot c.g vt3 vp3 x → foot c.g vt vp x) := F4
    have HH4 : Hid (PS c w4 i3 vt3 vp3 ts.tail (nest + 1) (bud + 1) ns) := H4
    clear G5 F4 H4
    cases r with
    | error er =>
      rintro e w5 ⟨rfl, G6⟩
      go_wp2
      exact ⟨rfl, rfl, (HG5.out.mono (fun x hx => Or.inl hx)).trans G6 (fun x hx h => h.elim (fun h => .inl (HF4.out x hx h)) .inr)⟩
    | ok v =>
      obtain ⟨v, ts'⟩ := v
      rintro e w5 ⟨rfl, X5, i5, vt5, vp5, H5, G6, F6⟩
      have RA5 := G6.vat RA4 (fun h => h.elim HF3.out (fun h => by have := HE.out _ h; have := HR2.out; omega))
      have VA5 := G6.vat VA (fun h => h.elim HV.out.2.1 (fun h => by have := HE.out _ h; have := HV.out.1; omega))
      have HF5 : Hid (¬ foot c.g vt5 vp5 R) := fun e => HF3.out (F6 R HV.out.2.2.2 e)
      have G7 : GB w w5 (fun x => foot c.g vt vp x ∨ E x) := (HG5.out.mono (fun x hx => Or.inl hx)).trans G6 (fun x hx h => h.elim (fun h => .inl (HF4.out x hx h)) .inr)
      have F7 : ∀ x, x < w.heap.size → foot c.g vt5 vp5 x → foot c.g vt vp x := fun x hx h => HF4.out x hx (F6 x (Nat.lt_of_lt_of_le hx HG5.out.size) h)
      have c2 : w5.cell? ⟨c.g, 2, none⟩ = some (.int .i64 ((nest + 1 : Nat) : Int)) := H5.blk.cell 2
      have f2 := H5.blk.free 2
      have hw : IntKind.i64.wrap (((nest + 1 : Nat) : Int) - 1) = (nest : Int) := by rw [IntKind.wrap_i64]; omega
      have hw2 : ((nest + 1 : Nat) : Int) - 1 = (nest : Int) := by omega
      have H6 := H5.nestTo (m := nest) hn
      have hgR : R ≠ c.g := fun e => by have := HP.out.blk.lt; have := HR2.out; omega
      have hgV : V ≠ c.g := fun e => by have := HP.out.blk.lt; have := HV.out.1; omega
      have K6 := grown_set w5 c.g 2 (.int .i64 (nest : Int))
      have RA6 := RA5.grown K6 (fun e => hgR (Option.some.inj e).symm)
      have VA6 := VA5.grown K6 (fun e => hgV (Option.some.inj e).symm)
      have HQ : Hid (PS c (w5.setCell ⟨c.g, 2, none⟩ (.int .i64 (nest : Int))) i5 vt5 vp5 ts' nest (bud + 1) (ns ++ more v) ∧ X v w5 ∧ GB w w5 (fun x => foot c.g vt vp x ∨ E x) ∧ (∀ x, x < w.heap.size → foot c.g vt5 vp5 x → foot c.g vt vp x) ∧ w5.grownBy (w5.setCell ⟨c.g, 2, none⟩ (.int .i64 (nest : Int))) (some c.g)) := ⟨H6, X5, G7, F7, K6⟩
      clear HG5 HF4 HH4 X5 H5 G6 F6 RA4 VA RA5 VA5 G7 F7 H6 K6
      go_upto_region 7 with fail
      generalize w5.setCell ⟨c.g, 2, none⟩ (.int .i64 (nest : Int)) = w6 at *
      go_wp2_with (first
        | refine wpList_load_row rfl 33 (.tmp 5) rfl V rfl 33 _ (0, 0) _ VA6 Tryz.underlying33 rfl sizeTk ?_
        | refine wpList_store_row rfl 33 (.tmp 4) (.tmp 35) rfl R (tkC ⟨tk, tp, tx, tn⟩) rfl rfl 33 _ RA6 sizeTk rfl (tkC_all _) ?_)
      refine bodyPost_ret (retRow1 rfl _ _ R _ _ rfl (RA6.setRow _) Tryz.underlying33 rfl sizeTk) rfl ?_
      obtain ⟨H6, X5, G7, F7, K6⟩ := HQ.out
      have K7 := vgrown_setRow (World.grownBy.refl w6 (some R)) R (tkC ⟨tk, tp, tx, tn⟩) (.inl rfl)
      have K8 : GB w5 (w6.setRow R (tkC ⟨tk, tp, tx, tn⟩)) (fun x => x = c.g ∨ w.heap.size ≤ x) := (GB.of K6 (S := fun x => x = c.g ∨ w.heap.size ≤ x) (fun x hx => by cases hx; exact .inl rfl)).trans (GB.of K7 (S := fun x => x = c.g ∨ w.heap.size ≤ x) (fun x hx => by cases hx; exact .inr HR2.out)) (fun _ _ h => h)
      refine ⟨by rw [HT.out], HX.out v _ _ X5 K8, i5, vt5, vp5, H6.away K7 HF5.out (fun e => by have := HP.out.toks_lt e; have := HR2.out; omega) (Nat.le_trans HP.out.grown.size HR2.out), ?_, F7⟩
      exact G7.trans K8 (fun x hx h => by
        rcases h with rfl | h
        · exact .inl (.inl rfl)
        · omega)

end
end Go.Proofs.YtbdmpjnlgdahmabGreatDoor
