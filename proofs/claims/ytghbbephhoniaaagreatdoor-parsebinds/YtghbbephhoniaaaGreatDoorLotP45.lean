import Derived.Test.YtghbbephhoniaaaGreatDoorLotP39
import Derived.Test.YtghbbephhoniaaaGreatDoorLotP44
namespace Go.Proofs.YtghbbephhoniaaaGreatDoor
open Go.RowKit
set_option maxRecDepth 100000
set_option maxHeartbeats 4000000 in
theorem nameOf_any (x : List UInt8) (w : World) : Calls Tryz.prog 122 #[str x] w fun e w' => e = .returned (.int .i64 (nameN x : Int)) ∧ w = w' := by
 obtain ⟨n, hn⟩ : ∃ n, nameN x = n := ⟨_, rfl⟩
 have HN : Hid (nameN x = n) := hn
 rw [hn]
 clear hn
 by_cases h0 : x = [112, 112, 112]
 ·have e0 : (x == [112, 112, 112]) = true := by simpa using h0
  have HV : Hid (n = 1) := by show n = _; rw [← HN.out, h0]; rfl
  clear h0 HN
  go_enter Tryz.func122, Tryz.ntmps122
  go_wp2
  go_ret
  exact ⟨by rw [HV.out]; rfl, rfl⟩
 have e0 : (x == [112, 112, 112]) = false := by simpa using h0
 by_cases h1 : x = [105, 112]
 ·have e1 : (x == [105, 112]) = true := by simpa using h1
  have HV : Hid (n = 2) := by show n = _; rw [← HN.out, h1]; rfl
  clear h0 h1 HN
  go_enter Tryz.func122, Tryz.ntmps122
  go_wp2
  go_ret
  exact ⟨by rw [HV.out]; rfl, rfl⟩
 have e1 : (x == [105, 112]) = false := by simpa using h1
 by_cases h2 : x = [105, 112, 54]
 ·have e2 : (x == [105, 112, 54]) = true := by simpa using h2
  have HV : Hid (n = 3) := by show n = _; rw [← HN.out, h2]; rfl
  clear h0 h1 h2 HN
  go_enter Tryz.func122, Tryz.ntmps122
  go_wp2
  go_ret
  exact ⟨by rw [HV.out]; rfl, rfl⟩
 have e2 : (x == [105, 112, 54]) = false := by simpa using h2
 by_cases h3 : x = [116, 99, 112]
 ·have e3 : (x == [116, 99, 112]) = true := by simpa using h3
  have HV : Hid (n = 4) := by show n = _; rw [← HN.out, h3]; rfl
  clear h0 h1 h2 h3 HN
  go_enter Tryz.func122, Tryz.ntmps122
  go_wp2
  go_ret
  exact ⟨by rw [HV.out]; rfl, rfl⟩
 have e3 : (x == [116, 99, 112]) = false := by simpa using h3
 by_cases h4 : x = [117, 100, 112]
 ·have e4 : (x == [117, 100, 112]) = true := by simpa using h4
  have HV : Hid (n = 5) := by show n = _; rw [← HN.out, h4]; rfl
  clear h0 h1 h2 h3 h4 HN
  go_enter Tryz.func122, Tryz.ntmps122
  go_wp2
  go_ret
  exact ⟨by rw [HV.out]; rfl, rfl⟩
 have e4 : (x == [117, 100, 112]) = false := by simpa using h4
 by_cases h5 : x = [105, 99, 109, 112]
 ·have e5 : (x == [105, 99, 109, 112]) = true := by simpa using h5
  have HV : Hid (n = 6) := by show n = _; rw [← HN.out, h5]; rfl
  clear h0 h1 h2 h3 h4 h5 HN
  go_enter Tryz.func122, Tryz.ntmps122
  go_wp2
  go_ret
  exact ⟨by rw [HV.out]; rfl, rfl⟩
 have e5 : (x == [105, 99, 109, 112]) = false := by simpa using h5
 by_cases h6 : x = [105, 99, 109, 112, 54]
 ·have e6 : (x == [105, 99, 109, 112, 54]) = true := by simpa using h6
  have HV : Hid (n = 7) := by show n = _; rw [← HN.out, h6]; rfl
  clear h0 h1 h2 h3 h4 h5 h6 HN
  go_enter Tryz.func122, Tryz.ntmps122
  go_wp2
  go_ret
  exact ⟨by rw [HV.out]; rfl, rfl⟩
 have e6 : (x == [105, 99, 109, 112, 54]) = false := by simpa using h6
 by_cases h7 : x = [108, 99, 112]
 ·have e7 : (x == [108, 99, 112]) = true := by simpa using h7
  have HV : Hid (n = 8) := by show n = _; rw [← HN.out, h7]; rfl
  clear h0 h1 h2 h3 h4 h5 h6 h7 HN
  go_enter Tryz.func122, Tryz.ntmps122
  go_wp2
  go_ret
  exact ⟨by rw [HV.out]; rfl, rfl⟩
 have e7 : (x == [108, 99, 112]) = false := by simpa using h7
 by_cases h8 : x = [112, 97, 112]
 ·have e8 : (x == [112, 97, 112]) = true := by simpa using h8
  have HV : Hid (n = 9) := by show n = _; rw [← HN.out, h8]; rfl
  clear h0 h1 h2 h3 h4 h5 h6 h7 h8 HN
  go_enter Tryz.func122, Tryz.ntmps122
  go_wp2
  go_ret
  exact ⟨by rw [HV.out]; rfl, rfl⟩
 have e8 : (x == [112, 97, 112]) = false := by simpa using h8
 by_cases h9 : x = [99, 104, 97, 112]
 ·have e9 : (x == [99, 104, 97, 112]) = true := by simpa using h9
  have HV : Hid (n = 10) := by show n = _; rw [← HN.out, h9]; rfl
  clear h0 h1 h2 h3 h4 h5 h6 h7 h8 h9 HN
  go_enter Tryz.func122, Tryz.ntmps122
  go_wp2
  go_ret
  exact ⟨by rw [HV.out]; rfl, rfl⟩
 have e9 : (x == [99, 104, 97, 112]) = false := by simpa using h9
 by_cases h10 : x = [105, 112, 99, 112]
 ·have e10 : (x == [105, 112, 99, 112]) = true := by simpa using h10
  have HV : Hid (n = 11) := by show n = _; rw [← HN.out, h10]; rfl
  clear h0 h1 h2 h3 h4 h5 h6 h7 h8 h9 h10 HN
  go_enter Tryz.func122, Tryz.ntmps122
  go_wp2
  go_ret
  exact ⟨by rw [HV.out]; rfl, rfl⟩
 have e10 : (x == [105, 112, 99, 112]) = false := by simpa using h10
 by_cases h11 : x = [105, 112, 54, 99, 112]
 ·have e11 : (x == [105, 112, 54, 99, 112]) = true := by simpa using h11
  have HV : Hid (n = 12) := by show n = _; rw [← HN.out, h11]; rfl
  clear h0 h1 h2 h3 h4 h5 h6 h7 h8 h9 h10 h11 HN
  go_enter Tryz.func122, Tryz.ntmps122
  go_wp2
  go_ret
  exact ⟨by rw [HV.out]; rfl, rfl⟩
 have e11 : (x == [105, 112, 54, 99, 112]) = false := by simpa using h11
 by_cases h12 : x = [109, 112]
 ·have e12 : (x == [109, 112]) = true := by simpa using h12
  have HV : Hid (n = 13) := by show n = _; rw [← HN.out, h12]; rfl
  clear h0 h1 h2 h3 h4 h5 h6 h7 h8 h9 h10 h11 h12 HN
  go_enter Tryz.func122, Tryz.ntmps122
  go_wp2
  go_ret
  exact ⟨by rw [HV.out]; rfl, rfl⟩
 have e12 : (x == [109, 112]) = false := by simpa using h12
 have HV : Hid (n = 0) := by
  show n = 0
  rw [← HN.out]
  unfold nameN
  rw [if_neg h0, if_neg h1, if_neg h2, if_neg h3, if_neg h4, if_neg h5, if_neg h6, if_neg h7, if_neg h8, if_neg h9, if_neg h10, if_neg h11, if_neg h12]
 clear h0 h1 h2 h3 h4 h5 h6 h7 h8 h9 h10 h11 h12 HN
 go_enter Tryz.func122, Tryz.ntmps122
 go_wp2
 go_ret
 exact ⟨by rw [HV.out]; rfl, rfl⟩
def insV (rec : Nat → List Tk → Out) (nest : Nat) (ts : List Tk) : Except Er ((List (Nd × Nat) × Nat) × List Tk) := thenE (rec nest ts) fun p => thenE (sizeF p.2) fun q => .ok ((p.1, q.1), q.2)
def OrOk (c : PC) (rec : Nat → List Tk → Out) : Prop := ∀ (W : World) (i : Nat) (vt vp : Value) (ts : List Tk) (nest bud : Nat) (ns : List (Nd × Nat)), PS c W i vt vp ts nest bud ns → rec nest ts ≠ .error exP → Calls Tryz.prog 14 #[.pointer (some ⟨c.g, 0, none⟩)] W (RunP c W vt vp nest bud ns (rec nest ts))

section
variable {c : PC} {w : World} {i nest bud : Nat} {vt vp : Value} {ts : List Tk} {ns : List (Nd × Nat)}
structure PX (c : PC) (w : World) (vt vp : Value) (W : World) (i' : Nat) (vt' vp' : Value) (ts' : List Tk) (nest bud' : Nat) (ns : List (Nd × Nat)) (bp bz tz : Nat) (z : Array Value) : Prop where
 ps : PS c W i' vt' vp' ts' nest bud' ns
 gb : GB w W (fun x => foot c.g vt vp x ∨ x = bz)
 sh : ∀ x, x < w.heap.size → foot c.g vt' vp' x → foot c.g vt vp x
 fp : ¬ foot c.g vt' vp' bp
 fz : ¬ foot c.g vt' vp' bz
 par : VAt W bp 66 #[.pointer (some ⟨c.g, 0, none⟩)]
 own : VAt W bz tz z
 ne : bp ≠ bz
theorem PX.keep {W W2 : World} {i1 bud1 bp bz tz : Nat} {vt1 vp1 : Value} {ts1 : List Tk} {z : Array Value} (h : PX c w vt vp W i1 vt1 vp1 ts1 nest bud1 ns bp bz tz z) (G : W.grownBy W2 none) : PX c w vt vp W2 i1 vt1 vp1 ts1 nest bud1 ns bp bz tz z :=
 { h with ps := h.ps.keep G, gb := h.gb.trans (GB.non (S := fun x => foot c.g vt vp x ∨ x = bz) G) (fun _ _ h => h), par := h.par.kept G, own := h.own.kept G }
theorem PX.less {W : World} {i1 bud1 b bp bz tz : Nat} {vt1 vp1 : Value} {ts1 : List Tk} {z : Array Value} (h : PX c w vt vp W i1 vt1 vp1 ts1 nest bud1 ns bp bz tz z) (hb : b ≤ bud1) : PX c w vt vp W i1 vt1 vp1 ts1 nest b ns bp bz tz z := { h with ps := h.ps.less hb }
theorem PX.step {W W2 : World} {i1 bud1 bud2 bp bz tz : Nat} {vt1 vp1 : Value} {ts1 ts2 : List Tk} {z : Array Value} {ns2 : List (Nd × Nat)} (h : PX c w vt vp W i1 vt1 vp1 ts1 nest bud1 ns bp bz tz z) (r : Ret c W vt1 vp1 ts2 nest bud2 ns2 W2) : ∃ i2 vt2 vp2, PX c w vt vp W2 i2 vt2 vp2 ts2 nest bud2 ns2 bp bz tz z := by
 obtain ⟨i2, vt2, vp2, p, g, f⟩ := r
 exact ⟨i2, vt2, vp2, p, h.gb.trans g (fun x hx k => .inl (h.sh x hx k)), fun x hx k => h.sh x hx (f x (Nat.lt_of_lt_of_le hx h.gb.size) k), fun e => h.fp (f bp h.par.lt e), fun e => h.fz (f bz h.own.lt e), g.vat h.par h.fp, g.vat h.own h.fz, h.ne⟩
theorem PX.err {W W2 : World} {i1 bud1 bp bz tz : Nat} {vt1 vp1 : Value} {ts1 : List Tk} {z : Array Value} (h : PX c w vt vp W i1 vt1 vp1 ts1 nest bud1 ns bp bz tz z) (g : GB W W2 (foot c.g vt1 vp1)) : GB w W2 (fun x => foot c.g vt vp x ∨ x = bz) := h.gb.trans g (fun x hx k => .inl (h.sh x hx k))
theorem PX.set {W : World} {i1 bud1 bp bz tz : Nat} {vt1 vp1 : Value} {ts1 : List Tk} {z z2 : Array Value} (h : PX c w vt vp W i1 vt1 vp1 ts1 nest bud1 ns bp bz tz z) (v : Value) (e : z.setIfInBounds 0 v = z2) (hT : tz ≠ 63) (h0 : c.w0.heap.size ≤ bz) : PX c w vt vp (W.setCell ⟨bz, 0, none⟩ v) i1 vt1 vp1 ts1 nest bud1 ns bp bz tz z2 :=
 { h with
  ps := h.ps.away (grown_set W bz 0 v) h.fz (own_vat h.ps.toks h.own (fun e => hT e.symm)) h0
  gb := h.gb.trans (GB.of (S := fun x => x = bz) (grown_set W bz 0 v) (fun x hx => by cases hx; rfl)) (fun x hx e => .inr e)
  par := h.par.setOther v h.ne
  own := by have := h.own.set 0 v; rw [e] at this; exact this }
set_option maxHeartbeats 4000000 in
theorem load1_any (rec : Nat → List Tk → Out) (HO : OrOk c rec) (bp bz : Nat) (h : PS c w i vt vp ts nest bud ns) (fp : ¬ foot c.g vt vp bp) (fz : ¬ foot c.g vt vp bz) (hp : VAt w bp 66 #[.pointer (some ⟨c.g, 0, none⟩)]) (hz : VAt w bz 3 #[.int .i64 1]) (hne : bp ≠ bz) (h0 : c.w0.heap.size ≤ bz) (hex : rec nest ts ≠ .error exP) :
  Calls Tryz.prog 126 #[.pointer (some ⟨bp, 0, none⟩), .pointer (some ⟨bz, 0, none⟩)] w (RunX c w vt vp (fun x => x = bz) nest bud ns (fun _ => .tuple #[]) Prod.fst (fun (v : List (Nd × Nat) × Nat) W => VAt W bp 66 #[.pointer (some ⟨c.g, 0, none⟩)] ∧ VAt W bz 3 #[.int .i64 (v.2 : Int)]) (insV rec nest ts)) := by
 have Q0 : PX c w vt vp w i vt vp ts nest bud ns bp bz 3 #[.int .i64 1] := ⟨h, GB.refl _ _, fun _ _ h => h, fp, fz, hp, hz, hne⟩
 have C0 := HO w i vt vp ts nest bud ns h hex
 have p0 : w.cell? ⟨bp, 0, none⟩ = some (.pointer (some ⟨c.g, 0, none⟩)) := hp.cell 0
 obtain ⟨ans, hans⟩ : ∃ a, insV rec nest ts = a := ⟨_, rfl⟩
 have HA : Hid (insV rec nest ts = ans) := hans
 rw [hans]
 unfold insV at HA
 have HNE : Hid (bp ≠ bz ∧ c.w0.heap.size ≤ bz) := ⟨hne, h0⟩
 clear h hp hz fp fz hne h0 hex hans HO
 generalize rec nest ts = rr at *
 go_enter Tryz.func126, Tryz.ntmps126
 go_wp2_with fail
 refine C0.mono ?_
 clear C0
 cases rr with
 | error er =>
  have HA3 : Hid (ans = .error er) := HA.out.symm
  rintro e w1 ⟨rfl, G⟩
  go_wp2
  refine ⟨rfl, ?_⟩
  rw [HA3.out]
  exact ⟨rfl, Q0.err G⟩
 | ok v =>
  obtain ⟨ms, r1⟩ := v
  rintro e w1 ⟨rfl, R1⟩
  obtain ⟨i1, vt1, vp1, Q1⟩ := Q0.step R1
  clear Q0 R1 p0
  rw [thenE_ok] at HA
  simp only at HA
  have C1 := skip_any Q1.ps [58] (ask_s (by decide) (by kernel_rfl))
  have p1 : w1.cell? ⟨bp, 0, none⟩ = some (.pointer (some ⟨c.g, 0, none⟩)) := Q1.par.cell 0
  cases hb : isB r1 [58] with
  | true =>
   rw [hb] at C1
   have HA2 : Hid (thenE (numT r1.tail) (fun p => thenE (mustV [93] p.2) fun r => .ok ((ms, p.1), r)) = ans) := by
    show _ = ans
    rw [← HA.out, sizeF, if_pos hb]
    simp only [then_then, thenE_ok]
   clear hb HA
   go_wp2_with fail
   refine C1.mono ?_
   rintro e w2 ⟨rfl, R2⟩
   obtain ⟨i2, vt2, vp2, Q2⟩ := Q1.step R2
   clear C1 Q1 R2 p1
   have C2 := rnumber_any (Q2.ps.less (Nat.le_succ bud))
   have p2 : w2.cell? ⟨bp, 0, none⟩ = some (.pointer (some ⟨c.g, 0, none⟩)) := Q2.par.cell 0
   have HNM : Hid (∀ m r, numT r1.tail = .ok (m, r) → m ≤ 4294967295) := fun m r hr => num_le Q2.ps.good hr
   generalize numT r1.tail = nr at *
   go_wp2_with fail
   refine C2.mono ?_
   clear C2
   cases nr with
   | error er =>
    have HA3 : Hid (ans = .error er) := HA2.out.symm
    rintro e w3 ⟨rfl, G⟩
    go_wp2
    refine ⟨rfl, ?_⟩
    rw [HA3.out]
    exact ⟨rfl, Q2.err G⟩
   | ok v =>
    obtain ⟨m, r3⟩ := v
    have hm := HNM.out m r3 rfl
    rintro e w3 ⟨rfl, R3⟩
    obtain ⟨i3, vt3, vp3, Q3⟩ := Q2.step R3
    rw [thenE_ok] at HA2
    simp only at HA2
    have hw : IntKind.i64.wrap (m : Int) = (m : Int) := by rw [IntKind.wrap_i64]; omega
    have z3 : w3.cell? ⟨bz, 0, none⟩ = some (.int .i64 1) := Q3.own.cell 0
    have z3f := Q3.own.free 0
    have Q4 := PX.set (z2 := #[.int .i64 (m : Int)]) Q3 (.int .i64 (m : Int)) rfl (by decide) HNE.out.2
    clear Q2 R3 p2 HNM Q3
    go_upto_region 3 with fail
    generalize w3.setCell ⟨bz, 0, none⟩ (.int .i64 (m : Int)) = w4 at *
    clear z3 z3f hw
    have C4 := must_any (Q4.ps.less (Nat.le_succ bud)) [93] (ask_s (by decide) (by kernel_rfl))
    have p4 : w4.cell? ⟨bp, 0, none⟩ = some (.pointer (some ⟨c.g, 0, none⟩)) := Q4.par.cell 0
    generalize mustV [93] r3 = mr at *
    go_wp2_with fail
    refine C4.mono ?_
    clear C4
    cases mr with
    | error er =>
     have HA3 : Hid (ans = .error er) := HA2.out.symm
     rintro e w5 ⟨rfl, G⟩
     go_wp2
     refine ⟨rfl, ?_⟩
     rw [HA3.out]
     exact ⟨rfl, Q4.err G⟩
    | ok r5 =>
     rintro e w5 ⟨rfl, R5⟩
     obtain ⟨i5, vt5, vp5, Q5⟩ := Q4.step R5
     have HA3 : Hid (ans = .ok ((ms, m), r5)) := HA2.out.symm
     have HQ : Hid (PX c w vt vp w5 i5 vt5 vp5 r5 nest bud (ns ++ ms) bp bz 3 #[.int .i64 (m : Int)]) := Q5.less (Nat.le_succ bud)
     clear Q4 R5 Q5 p4
     go_wp2
     go_end0
     rw [HA3.out]
     exact ⟨rfl, ⟨HQ.out.par, HQ.out.own⟩, i5, vt5, vp5, HQ.out.ps, HQ.out.gb, HQ.out.sh⟩
  | false =>
   rw [hb] at C1
   have HA2 : Hid (thenE (mustV [93] r1) (fun r => .ok ((ms, 1), r)) = ans) := by
    show _ = ans
    rw [← HA.out, sizeF, if_neg (by rw [hb]; simp)]
    simp only [then_then, thenE_ok]
   clear hb HA
   go_wp2_with fail
   refine C1.mono ?_
   rintro e w2 ⟨rfl, hG⟩
   have G2 : w1.grownBy w2 none := hG
   have Q2 := Q1.keep G2
   clear C1 Q1 hG G2 p1
   have C4 := must_any Q2.ps [93] (ask_s (by decide) (by kernel_rfl))
   have p4 : w2.cell? ⟨bp, 0, none⟩ = some (.pointer (some ⟨c.g, 0, none⟩)) := Q2.par.cell 0
   generalize mustV [93] r1 = mr at *
   go_wp2_with fail
   refine C4.mono ?_
   clear C4
   cases mr with
   | error er =>
    have HA3 : Hid (ans = .error er) := HA2.out.symm
    rintro e w5 ⟨rfl, G⟩
    go_wp2
    refine ⟨rfl, ?_⟩
    rw [HA3.out]
    exact ⟨rfl, Q2.err G⟩
   | ok r5 =>
    rintro e w5 ⟨rfl, R5⟩
    obtain ⟨i5, vt5, vp5, Q5⟩ := Q2.step R5
    have HA3 : Hid (ans = .ok ((ms, 1), r5)) := HA2.out.symm
    have HQ : Hid (PX c w vt vp w5 i5 vt5 vp5 r5 nest bud (ns ++ ms) bp bz 3 #[.int .i64 1]) := Q5.less (Nat.le_succ bud)
    clear Q2 R5 Q5 p4
    go_wp2
    go_end0
    rw [HA3.out]
    exact ⟨rfl, ⟨HQ.out.par, HQ.out.own⟩, i5, vt5, vp5, HQ.out.ps, HQ.out.gb, HQ.out.sh⟩
def loadN (of size : Nat) : Nd := { ndK 3 with of := of, size := size }
theorem loadN_cells (of size : Nat) : (loadN of size).cells = [.int .i64 3, .int .i64 0, .int .u32 0, .int .u32 0, .int .i64 (size : Int), .int .i64 (of : Int), .int .i64 0, .int .u8 0, .int .u8 0, .int .u8 0, .int .u8 0, .int .u8 0, .int .u8 0, .int .u8 0, .int .u8 0, .int .u8 0, .int .u8 0, .int .u8 0, .int .u8 0, .int .u8 0, .int .u8 0, .int .u8 0, .int .u8 0, .int .i64 0] := by kernel_rfl

end

section
variable {c : PC} {w : World} {i nest bud : Nat} {vt vp : Value} {ts : List Tk} {ns : List (Nd × Nat)}
theorem load_eq (rec : Nat → List Tk → Out) (nest of p : Nat) (ts : List Tk) : opnV nest ts (thenE (rec (nest + 1) ts.tail) fun p1 => thenE (sizeF p1.2) fun q => .ok (p1.1 ++ [({ ndK 3 with of := of, size := q.1 }, p)], q.2)) =
  thenE (opnV nest ts (insV rec (nest + 1) ts.tail)) fun v => .ok (v.1.1 ++ [(loadN of v.1.2, p)], v.2) := by
 rw [← opn_then]
 unfold insV
 simp only [then_then, thenE_ok]
 rfl
theorem ins_told {rec : Nat → List Tk → Out} {nest : Nat} {ts : List Tk} (h : insV rec nest ts ≠ .error exP) : rec nest ts ≠ .error exP := fun e => by
 unfold insV at h
 rw [e] at h
 exact h rfl
set_option maxHeartbeats 4000000 in
theorem load_any (rec : Nat → List Tk → Out) (HO : OrOk c rec) (h : PS c w i vt vp ts nest bud ns) (hk : (hdT ts).kind ≠ 0) (t : Tk) (of : Nat)
  (ans : Out) (hans : opnV nest ts (thenE (rec (nest + 1) ts.tail) fun p1 => thenE (sizeF p1.2) fun q => .ok (p1.1 ++ [({ ndK 3 with of := of, size := q.1 }, t.pos)], q.2)) = ans) (hne : ans ≠ .error exP) :
  Calls Tryz.prog 123 #[.pointer (some ⟨c.g, 0, none⟩), .agg (tkC t), .int .i64 (of : Int)] w (RunP c w vt vp nest bud ns ans) := by
 rw [load_eq] at hans
 have HP : Hid (PS c w i vt vp ts nest bud ns) := h
 obtain ⟨tk, tp, tx, tn⟩ := t
 unfold tkC
 simp only at *
 have K1 := World.grownBy_alloc w (.cells #[.pointer (some ⟨c.g, 0, none⟩)] 66) none
 have A1 := VAt.alloc w 66 #[.pointer (some ⟨c.g, 0, none⟩)]
 have K2 := World.grownBy_alloc (w.alloc (.cells #[.pointer (some ⟨c.g, 0, none⟩)] 66)) (.cells #[.int .i64 (tk : Int), .int .i64 (tp : Int), str tx, .int .u32 (tn : Int)] 63) none
 have A2 := VAt.alloc (w.alloc (.cells #[.pointer (some ⟨c.g, 0, none⟩)] 66)) 63 #[.int .i64 (tk : Int), .int .i64 (tp : Int), str tx, .int .u32 (tn : Int)]
 rw [show (w.alloc (.cells #[.pointer (some ⟨c.g, 0, none⟩)] 66)).heap.size = w.heap.size + 1 by simp] at A2
 have A1b := A1.kept K2
 have G2 := grown_trans K1 K2
 have HANS : Hid (thenE (opnV nest ts (insV rec (nest + 1) ts.tail)) (fun v => .ok (v.1.1 ++ [(loadN of v.1.2, tp)], v.2)) = ans) := hans
 have HNE : Hid (nest ≠ 200 → rec (nest + 1) ts.tail ≠ .error exP) := fun hn => ins_told (fun e => by
  rw [opnV, if_neg hn, e] at hans
  exact hne hans.symm)
 have HK : Hid ((hdT ts).kind ≠ 0) := hk
 have HOO : Hid (OrOk c rec) := HO
 clear h K1 K2 A1 hans hk HO hne
 go_enter Tryz.func123, Tryz.ntmps123
 go_upto_region 1 with fail
 generalize (w.alloc (.cells #[.pointer (some ⟨c.g, 0, none⟩)] 66)).alloc (.cells #[.int .i64 (tk : Int), .int .i64 (tp : Int), str tx, .int .u32 (tn : Int)] 63) = w2 at *
 obtain ⟨bp, hbp⟩ : ∃ b, w.heap.size = b := ⟨_, rfl⟩
 obtain ⟨bn, hbn⟩ : ∃ b, w.heap.size + 1 = b := ⟨_, rfl⟩
 rw [hbn] at A2 ⊢
 rw [hbp] at A1b ⊢
 have HB : Hid (w.heap.size = bp ∧ w.heap.size + 1 = bn) := ⟨hbp, hbn⟩
 clear hbp hbn
 have K3 := World.grownBy_alloc w2 (.cells #[.int .i64 1] 3) none
 have A3 := VAt.alloc w2 3 #[.int .i64 1]
 have B3 := A1b.kept K3
 have N3 := A2.kept K3
 have G3 := grown_trans G2 K3
 have H3 := HP.out.keep G3
 have HZ : Hid (bn < w2.heap.size ∧ w.heap.size ≤ w2.heap.size) := ⟨A2.lt, G2.size⟩
 clear K3 A2 A1b G2
 go_upto_region 2 with fail
 generalize w2.alloc (.cells #[.int .i64 1] 3) = w3 at *
 generalize w2.heap.size = bz at *
 have p3 : w3.cell? ⟨bp, 0, none⟩ = some (.pointer (some ⟨c.g, 0, none⟩)) := B3.cell 0
 have hl : bp < bz ∧ bn < bz ∧ bz < w3.heap.size ∧ bp ≠ bz ∧ w.heap.size ≤ bp ∧ w.heap.size ≤ bn ∧ w.heap.size ≤ bz := by
  have := HB.out
  have := HZ.out
  have := A3.lt
  omega
 have hgl := HP.out.blk.lt
 have CN := nested_any (α := List (Nd × Nat) × Nat) H3 HK.out 126 #[] #[.pointer (some ⟨bp, 0, none⟩), .pointer (some ⟨bz, 0, none⟩)] (fun _ _ => by kernel_rfl) (fun x => x = bz) Prod.fst (fun (v : List (Nd × Nat) × Nat) W => VAt W bp 66 #[.pointer (some ⟨c.g, 0, none⟩)] ∧ VAt W bz 3 #[.int .i64 (v.2 : Int)]) (insV rec (nest + 1) ts.tail)
  (fun x hx => by rw [hx]; exact hl.2.2.1)
  (fun v W W' hX hG => ⟨hG.vat hX.1 (fun e => by rcases e with e | e <;> omega), hG.vat hX.2 (fun e => by rcases e with e | e <;> omega)⟩)
  (fun W i1 vt1 vp1 hG hF h1 => by
   have hn := h1.nest_le
   refine load1_any rec HOO.out bp bz h1 (fun e => ?_) (fun e => ?_) (hG.vat B3 (HP.out.not_foot hl.2.2.2.2.1)) (hG.vat A3 (HP.out.not_foot hl.2.2.2.2.2.2)) hl.2.2.2.1 (Nat.le_trans HP.out.grown.size hl.2.2.2.2.2.2) (HNE.out (by omega))
   ·exact HP.out.not_foot hl.2.2.2.2.1 (hF bp (by omega) e)
   ·exact HP.out.not_foot hl.2.2.2.2.2.2 (hF bz (by omega) e))
 have HN3 : Hid (VAt w3 bn 63 #[.int .i64 (tk : Int), .int .i64 (tp : Int), str tx, .int .u32 (tn : Int)] ∧ w.grownBy w3 none) := ⟨N3, G3⟩
 have HL : Hid (bp < bz ∧ bn < bz ∧ bz < w3.heap.size ∧ bp ≠ bz ∧ w.heap.size ≤ bp ∧ w.heap.size ≤ bn ∧ w.heap.size ≤ bz) := hl
 clear H3 hl hgl A3 B3 N3 G3 HNE HOO HK
 generalize opnV nest ts (insV rec (nest + 1) ts.tail) = rr at *
 go_wp2_with fail
 refine CN.mono ?_
 clear CN
 cases rr with
 | error er =>
  have HA3 : Hid (ans = .error er) := HANS.out.symm
  rintro e w4 ⟨rfl, G⟩
  go_wp2
  refine ⟨rfl, ?_⟩
  rw [HA3.out]
  exact ⟨rfl, (GB.non (S := foot c.g vt vp) HN3.out.2).trans G (fun x hx h => h.elim id (fun e => by have := HL.out; omega))⟩
 | ok v =>
  obtain ⟨⟨ms, sz⟩, r4⟩ := v
  have HA3 : Hid (ans = .ok (ms ++ [(loadN of sz, tp)], r4)) := HANS.out.symm
  rintro e w4 ⟨rfl, ⟨B4, Z4⟩, i4, vt4, vp4, H4, G4, F4⟩
  have p4 : w4.cell? ⟨bp, 0, none⟩ = some (.pointer (some ⟨c.g, 0, none⟩)) := B4.cell 0
  have z4 : w4.cell? ⟨bz, 0, none⟩ = some (.int .i64 (sz : Int)) := Z4.cell 0
  have N4 := G4.vat HN3.out.1 (fun h => h.elim (HP.out.not_foot HL.out.2.2.2.2.2.1) (fun e => by have := HL.out; omega))
  have HQ : Hid (GB w w4 (foot c.g vt vp) ∧ ∀ x, x < w.heap.size → foot c.g vt4 vp4 x → foot c.g vt vp x) := ⟨(GB.non (S := foot c.g vt vp) HN3.out.2).trans G4 (fun x hx h => h.elim id (fun e => by have := HL.out; omega)), fun x hx => F4 x (Nat.lt_of_lt_of_le hx HN3.out.2.size)⟩
  have CP := put_any H4 ⟨tk, tp, tx, tn⟩ (loadN of sz)
  rw [loadN_cells] at CP
  unfold tkC at CP
  simp only at CP
  clear HANS B4 Z4 H4 G4 F4 p3
  go_wp2_with (refine wpList_load_row rfl 63 (.tmp 4) rfl bn rfl 63 _ (0, 0) _ N4 Tryz.underlying63 rfl sizeTk ?_)
  refine CP.mono ?_
  rintro e w5 ⟨rfl, R5⟩
  clear CP
  go_wp2
  go_end0
  rw [HA3.out]
  refine ⟨rfl, ?_⟩
  rw [← List.append_assoc]
  exact Ret.of HQ.out.1 HQ.out.2 R5

end
end Go.Proofs.YtghbbephhoniaaaGreatDoor
