import Derived.Test.YtklipelnjgpnjaaGreatDoorLotB40
import Derived.Test.YtklipelnjgpnjaaGreatDoorLotB39
import Derived.Test.YtklipelnjgpnjaaGreatDoorLotB3
set_option maxHeartbeats 64000000
set_option maxRecDepth 100000
namespace Go.Proofs.YtklipelnjgpnjaaGreatDoor
open Go.RowKit
theorem GB.cv {w w' : World} {S : Nat → Prop} {ao : Option Addr} {vs : List Value} (h : GB w w' S) (hc : CV w ao vs) (ha : ∀ ad, ao = some ad → ¬ S ad.block) : CV w' ao vs :=
 hc.same fun ad had _ hlt => h.block ad.block hlt (ha ad had)
def msr (c : PC) (W : World) : Nat := c.all.length - (match W.cell? ⟨c.g, 1, none⟩ with
 | some (.int _ z) => z.toNat
 | _ => 0)

section
variable {c : PC} {w : World} {i nest bud : Nat} {vt vp : Value} {ts : List Tk} {ns : List (Nd × Nat)}
theorem PS.msr (h : PS c w i vt vp ts nest bud ns) : msr c w = ts.length := by
 have c1 : w.cell? ⟨c.g, 1, none⟩ = some (.int .i64 (i : Int)) := h.blk.cell 1
 unfold Go.Proofs.YtklipelnjgpnjaaGreatDoor.msr
 rw [c1, ← h.drop, List.length_drop]
 rfl
theorem a9E {α β : Type} (nest : Nat) (ts : List Tk) (x : Except Er α) (f : α → Except Er β) : B5 nest ts (d7 x f) = d7 (B5 nest ts x) f := by
 unfold B5
 split <;> rfl
theorem aD9 {rec : List Tk → Out} {k f : Nat} {ms : List (Nd × Nat)} {ts : List Tk} (h : opT k ts = none) : A9 rec k f ms ts = .ok (ms, ts) := by
 cases f with
 | zero => rfl
 | succ f => rw [A9, h]
theorem aE1 {rec : List Tk → Out} {k f : Nat} {ms : List (Nd × Nat)} {ts : List Tk} {nd : Nd} (hk : k ≠ 4) (h : opT k ts = some nd) : A9 rec k (f + 1) ms ts = d7 (rec ts.tail) fun p => A9 rec k f (ms ++ p.1 ++ [(nd, (hdT ts).pos)]) p.2 := by
 rw [A9, h]
 simp only
 congr 1
 funext p
 rw [if_neg hk]
theorem a29 (h : PS c w i vt vp ts nest bud ns) (n : Nat) (bs lb : Array Value) (hent : ∀ args w, (callFunc n args).run Tryz.prog w = .ok (.enter n args) w) (rec : Nat → List Tk → Out)
  (hin : ∀ (W : World) (i : Nat) (vt vp : Value) (ts : List Tk) (nest bud : Nat) (ns : List (Nd × Nat)), PS c W i vt vp ts nest bud ns → rec nest ts ≠ .error exP → Calls Tryz.prog n (bs ++ lb) W (o8 c W vt vp nest bud ns (rec nest ts)))
  (hfr : ∀ nest ts ns r, rec nest ts = .ok (ns, r) → Fr ts r)
  (a : Option Addr) (ca : Nat) (os : List Op3) (ha : CV w a (V9 os)) (hab : ∀ ad, a = some ad → ¬ d5 c.g vt vp ad.block) (hau : ∀ ad, a = some ad → ad.block < w.heap.size) (hos : ∀ o ∈ os, R0 o.1) (hm : os.length ≤ 1000) (k : Nat) (hk : k ≠ 4) (hop : ∀ ts, a0g ts → opT k ts = I9 os (hdT ts).text)
  (ans : Out) (hans : d7 (rec nest ts) (fun p => A9 (rec nest) k p.2.length p.1 p.2) = ans) (hne : ans ≠ .error exP) :
  Calls Tryz.prog 85 #[.pointer (some ⟨c.g, 0, none⟩), .func (.func n) bs lb, .slice a os.length ca] w (o8 c w vt vp nest bud ns ans) := by
 have HP : Hid (PS c w i vt vp ts nest bud ns) := h
 have HA : Hid (CV w a (V9 os) ∧ (∀ ad, a = some ad → ¬ d5 c.g vt vp ad.block) ∧ ∀ ad, a = some ad → ad.block < w.heap.size) := ⟨ha, hab, hau⟩
 have HIN : Hid (∀ (W : World) (i : Nat) (vt vp : Value) (ts : List Tk) (nest bud : Nat) (ns : List (Nd × Nat)), PS c W i vt vp ts nest bud ns → rec nest ts ≠ .error exP → Calls Tryz.prog n (bs ++ lb) W (o8 c W vt vp nest bud ns (rec nest ts))) := hin
 have HOS : Hid ((∀ o ∈ os, R0 o.1) ∧ ∀ ts, a0g ts → opT k ts = I9 os (hdT ts).text) := ⟨hos, hop⟩
 have HFR : Hid (∀ nest ts ns r, rec nest ts = .ok (ns, r) → Fr ts r) := hfr
 have HNE : Hid (ans ≠ .error exP) := hne
 have h1 : rec nest ts ≠ .error exP := fun e => by rw [e] at hans; exact hne hans.symm
 have CI := hin w i vt vp ts nest bud ns h h1
 have HANS : Hid (d7 (rec nest ts) (fun p => A9 (rec nest) k p.2.length p.1 p.2) = ans) := hans
 obtain ⟨r0, hr0⟩ : ∃ r, rec nest ts = r := ⟨_, rfl⟩
 rw [hr0] at CI HANS
 clear h ha hin hos hop hne hab hau hfr h1 hans hr0
 go_enter Tryz.func85, Tryz.ntmps85
 go_wp2_with fail
 refine CI.mono ?_
 clear CI
 cases r0 with
 | error er =>
  have ha : ans = .error er := HANS.out.symm
  subst ha
  rintro e w1 ⟨rfl, G1⟩
  go_wp2
  exact ⟨rfl, rfl, G1⟩
 | ok v =>
  obtain ⟨ms, ts1⟩ := v
  rintro e w1 ⟨rfl, i1, vt1, vp1, H1, G1, F1⟩
  have HQ : Hid (PS c w1 i1 vt1 vp1 ts1 nest bud (ns ++ ms) ∧ GB w w1 (d5 c.g vt vp) ∧ ∀ x, x < w.heap.size → d5 c.g vt1 vp1 x → d5 c.g vt vp x) := ⟨H1, G1, F1⟩
  have HL : Hid (A9 (rec nest) k ts1.length ms ts1 = ans) := HANS.out
  clear H1 G1 F1 HANS
  go_wp2
  go_loopw [] (fun wr => ∃ (f : Nat) (mx : List (Nd × Nat)) (tx : List Tk) (ix : Nat) (vx vy : Value), tx.length ≤ f ∧ Hid (A9 (rec nest) k f mx tx = ans) ∧ PS c wr ix vx vy tx nest bud (ns ++ mx) ∧ GB w wr (d5 c.g vt vp) ∧ ∀ x, x < w.heap.size → d5 c.g vx vy x → d5 c.g vt vp x) (fun wr => msr c wr)
  case atStart => exact ⟨ts1.length, ms, ts1, i1, vt1, vp1, Nat.le_refl _, HL, HQ.out.1, HQ.out.2.1, HQ.out.2.2⟩
  case round =>
   clear HQ HL
   obtain ⟨f, mx, tx, ix, vx, vy, hf, HL, H2, G2, F2⟩ := hrel
   have hfo := HOS.out.2 tx H2.good
   have CX := G2.cv HA.out.1 HA.out.2.1
   have hlen := List.length_pos_iff.2 H2.good.ne
   cases hO : opT k tx with
   | none =>
    rw [hO] at hfo
    have CF := a6k H2 n bs lb hent rec HIN.out a ca os CX HOS.out.1 hm (fun h => absurd hfo.symm h)
    rw [← hfo] at CF
    have HA2 : Hid (ans = .ok (mx, tx)) := by show ans = _; rw [← HL.out, aD9 hO]
    have HQ : Hid (PS c wr ix vx vy tx nest bud (ns ++ mx) ∧ GB w wr (d5 c.g vt vp) ∧ ∀ x, x < w.heap.size → d5 c.g vx vy x → d5 c.g vt vp x) := ⟨H2, G2, F2⟩
    clear hO hfo CX HL H2 G2 F2 hf hlen
    go_wp2_with fail
    refine CF.mono ?_
    rintro e w2 ⟨rfl, G3⟩
    clear CF
    go_wp2
    go_end0
    rw [HA2.out]
    exact ⟨rfl, ix, vx, vy, HQ.out.1.keep G3, HQ.out.2.1.trans (GB.non (S := d5 c.g vt vp) G3) (fun _ _ h => h), HQ.out.2.2⟩
   | some nd =>
    rw [hO] at hfo
    obtain ⟨f, rfl⟩ : ∃ g, f = g + 1 := ⟨f - 1, by omega⟩
    have e1 : d7 (rec nest tx.tail) (fun p => A9 (rec nest) k f (mx ++ p.1 ++ [(nd, (hdT tx).pos)]) p.2) = ans := by rw [← HL.out, aE1 hk hO]
    have hne2 : rec nest tx.tail ≠ .error exP := fun e => by rw [e] at e1; exact HNE.out e1.symm
    have CF := a6k H2 n bs lb hent rec HIN.out a ca os CX HOS.out.1 hm (fun _ => hne2)
    rw [← hfo] at CF
    have HE1 : Hid (d7 (rec nest tx.tail) (fun p => A9 (rec nest) k f (mx ++ p.1 ++ [(nd, (hdT tx).pos)]) p.2) = ans) := e1
    have HFL : Hid (∀ ns r, rec nest tx.tail = .ok (ns, r) → r.length + 2 ≤ tx.length) := fun ns r hr => by
     have := (HFR.out _ _ _ _ hr).2
     rw [List.length_tail] at this
     omega
    have HM : Hid (msr c wr = tx.length ∧ tx.length ≤ f + 1) := ⟨H2.msr, hf⟩
    have HQ : Hid (GB w wr (d5 c.g vt vp) ∧ ∀ x, x < w.heap.size → d5 c.g vx vy x → d5 c.g vt vp x) := ⟨G2, F2⟩
    clear hO hfo CX HL H2 G2 F2 hf hlen e1 hne2
    go_wp2_with fail
    refine CF.mono ?_
    clear CF
    generalize rec nest tx.tail = rr at *
    cases rr with
    | error er =>
     have ha : ans = .error er := HE1.out.symm
     rintro e w2 ⟨rfl, G3⟩
     go_wp2
     refine ⟨rfl, ?_⟩
     rw [ha]
     exact ⟨rfl, HQ.out.1.trans G3 HQ.out.2⟩
    | ok v =>
     obtain ⟨p1, p2⟩ := v
     rintro e w2 ⟨rfl, i3, v3, v4, H3, G3, F3⟩
     have HL2 : Hid (A9 (rec nest) k f (mx ++ p1 ++ [(nd, (hdT tx).pos)]) p2 = ans) := HE1.out
     have hlen := HFL.out p1 p2 rfl
     have HM2 : Hid (msr c w2 = p2.length) := H3.msr
     have HR : Hid (PS c w2 i3 v3 v4 p2 nest bud (ns ++ (mx ++ p1 ++ [(nd, (hdT tx).pos)])) ∧ GB w w2 (d5 c.g vt vp) ∧ ∀ x, x < w.heap.size → d5 c.g v3 v4 x → d5 c.g vt vp x) :=
      ⟨by rw [← List.append_assoc, ← List.append_assoc]; exact H3, HQ.out.1.trans G3 HQ.out.2, fun x hx h => HQ.out.2 x hx (F3 x (Nat.lt_of_lt_of_le hx HQ.out.1.size) h)⟩
     clear H3 G3 F3 HE1 HFL HQ
     go_wp2
     go_roundw
     case rel => exact ⟨f, _, p2, i3, v3, v4, by have := HM.out; omega, HL2, HR.out.1, HR.out.2.1, HR.out.2.2⟩
     case measure => rw [HM2.out, HM.out.1]; omega
theorem a9W (h : PS c w i vt vp ts nest bud ns) (kd : Nat) (n : Nat) (bs lb : Array Value) (hent : ∀ args w, (callFunc n args).run Tryz.prog w = .ok (.enter n args) w) (n2 : Nat) (bs2 lb2 : Array Value) (hent2 : ∀ args w, (callFunc n2 args).run Tryz.prog w = .ok (.enter n2 args) w)
  (rec rec2 : Nat → List Tk → Out)
  (hin : ∀ (W : World) (i : Nat) (vt vp : Value) (ts : List Tk) (nest bud : Nat) (ns : List (Nd × Nat)), PS c W i vt vp ts nest bud ns → rec nest ts ≠ .error exP → Calls Tryz.prog n (bs ++ lb) W (o8 c W vt vp nest bud ns (rec nest ts)))
  (hin2 : ∀ (W : World) (i : Nat) (vt vp : Value) (ts : List Tk) (nest bud : Nat) (ns : List (Nd × Nat)), PS c W i vt vp ts nest bud ns → rec2 nest ts ≠ .error exP → Calls Tryz.prog n2 (bs2 ++ lb2) W (o8 c W vt vp nest bud ns (rec2 nest ts)))
  (a : Option Addr) (ca : Nat) (xs : List (List UInt8)) (ha : CV w a (xs.map str)) (hm : xs.length ≤ 1000)
  (ans : Out) (hyes : (hdT ts).text ∈ xs → (hdT ts).kind ≠ 0 ∧ B5 nest ts (d7 (rec (nest + 1) ts.tail) fun p => .ok (p.1 ++ [(ndK kd, (hdT ts).pos)], p.2)) = ans) (hno : (hdT ts).text ∉ xs → rec2 nest ts = ans) (hne : ans ≠ .error exP) :
  Calls Tryz.prog 153 #[.pointer (some ⟨c.g, 0, none⟩), .int .i64 (kd : Int), .func (.func n) bs lb, .func (.func n2) bs2 lb2, .slice a xs.length ca] w (o8 c w vt vp nest bud ns ans) := by
 have CS := a2j h a ca xs ha hm
 have HP : Hid (PS c w i vt vp ts nest bud ns) := h
 by_cases hx : (hdT ts).text ∈ xs
 ·obtain ⟨hk, ha2⟩ := hyes hx
  rw [decide_eq_true hx] at CS
  rw [a9E] at ha2
  have HR : Hid (nest ≠ 200 → rec (nest + 1) ts.tail ≠ .error exP) := fun hn e => by
   rw [B5, if_neg hn, e] at ha2
   exact hne ha2.symm
  have HC : Hid (∀ W, w.grownBy W none → Calls Tryz.prog 174 #[.pointer (some ⟨c.g, 0, none⟩), .func (.func n) bs lb] W (a1b c W vt vp (fun _ => False) nest (bud + 1) ns (fun _ => .agg (tkC (hdT ts))) id (fun _ _ => True) (B5 nest ts (rec (nest + 1) ts.tail)))) := fun W G =>
   a6I (h.keep G) hk n bs lb hent (fun _ => False) id (fun _ _ => True) (rec (nest + 1) ts.tail) (fun _ h => h.elim) (fun _ _ _ h _ => h) (fun W i1 vt1 vp1 _ _ h1 => by
    have := h1.nest_le
    exact (hin W i1 vt1 vp1 ts.tail (nest + 1) (bud + 1) ns h1 (HR.out (by omega))).mono fun _ _ h => a1b.of_run h)
  have HA : Hid (d7 (B5 nest ts (rec (nest + 1) ts.tail)) (fun p => .ok (p.1 ++ [(ndK kd, (hdT ts).pos)], p.2)) = ans) := ha2
  generalize B5 nest ts (rec (nest + 1) ts.tail) = rr at *
  have HO3 : Hid (∀ W i vt vp ts nest bud ns, PS c W i vt vp ts nest (bud + 1) ns → ∀ t : Tk, Calls Tryz.prog 152 #[.pointer (some ⟨c.g, 0, none⟩), .agg (tkC t), .agg ([.int .i64 (kd : Int), .int .i64 0, .int .u32 0, .int .u32 0, .int .i64 0, .int .i64 0, .int .i64 0, .int .u8 0, .int .u8 0, .int .u8 0, .int .u8 0, .int .u8 0, .int .u8 0, .int .u8 0, .int .u8 0, .int .u8 0, .int .u8 0, .int .u8 0, .int .u8 0, .int .u8 0, .int .u8 0, .int .u8 0, .int .u8 0, .int .i64 0] : List Value).toArray] W fun e w' => e = .returned (.tuple #[]) ∧ Ret c W vt vp ts nest bud (ns ++ [(ndK kd, t.pos)]) w') := fun W i vt vp ts nest bud ns h t => by
   have := P8 h t (Op3.nd ([], kd, 0))
   rw [a9D] at this
   exact this
  clear h ha hin hin2 hyes hno hne hx ha2 HR hk
  go_enter Tryz.func153, Tryz.ntmps153
  go_wp2_with fail
  refine CS.mono ?_
  rintro e w1 ⟨rfl, G1⟩
  have CN := HC.out w1 G1
  clear CS HC
  go_wp2_with fail
  refine CN.mono ?_
  clear CN
  intro e w2 hX
  have hB := hX.back
  clear hX
  cases rr with
  | error er =>
   obtain ⟨rfl, G2⟩ := hB
   have HA2 : Hid (ans = .error er) := HA.out.symm
   go_wp2
   refine ⟨rfl, ?_⟩
   rw [HA2.out]
   exact ⟨rfl, (GB.non (S := d5 c.g vt vp) G1).trans G2 (fun _ _ h => h)⟩
  | ok v =>
   obtain ⟨ms, ts'⟩ := v
   obtain ⟨rfl, i3, vt3, vp3, H3, G3, F3⟩ := hB
   have CP := HO3.out w2 i3 vt3 vp3 ts' nest bud (ns ++ ms) H3 (hdT ts)
   have HQ : Hid (GB w w2 (d5 c.g vt vp) ∧ ∀ x, x < w.heap.size → d5 c.g vt3 vp3 x → d5 c.g vt vp x) := ⟨(GB.non (S := d5 c.g vt vp) G1).trans G3 (fun _ _ h => h), fun x hx => F3 x (Nat.lt_of_lt_of_le hx G1.size)⟩
   have ha : ans = .ok (ms ++ [(ndK kd, (hdT ts).pos)], ts') := HA.out.symm
   have HA2 : Hid (ans = .ok (ms ++ [(ndK kd, (hdT ts).pos)], ts')) := ha
   clear HA HO3 H3 G3 F3 G1 ha
   obtain ⟨TC, hTC⟩ : ∃ T, tkC (hdT ts) = T := ⟨_, rfl⟩
   rw [hTC] at CP ⊢
   clear hTC
   go_wp2_with fail
   refine CP.mono ?_
   rintro e w3 ⟨rfl, R⟩
   clear CP
   go_wp2
   go_end0
   rw [HA2.out]
   refine ⟨rfl, ?_⟩
   rw [← List.append_assoc]
   exact Ret.of HQ.out.1 HQ.out.2 R
 ·have ha2 := hno hx
  rw [decide_eq_false hx] at CS
  have HC : Hid (∀ W, w.grownBy W none → Calls Tryz.prog n2 (bs2 ++ lb2) W (o8 c W vt vp nest bud ns ans)) := fun W G => by
   have := hin2 W i vt vp ts nest bud ns (h.keep G) (by rw [ha2]; exact hne)
   rw [ha2] at this
   exact this
  have HNE : Hid (ans ≠ .error exP) := hne
  clear h ha hin hin2 hyes hno hne hx ha2
  go_enter Tryz.func153, Tryz.ntmps153
  go_wp2_with fail
  refine CS.mono ?_
  rintro e w1 ⟨rfl, G1⟩
  have CN := HC.out w1 G1
  clear CS HC
  go_wp2_with fail
  refine CN.mono ?_
  clear CN
  cases ans with
  | error er =>
   rintro e w2 ⟨rfl, G2⟩
   go_wp2
   exact ⟨rfl, rfl, (GB.non (S := d5 c.g vt vp) G1).trans G2 (fun _ _ h => h)⟩
  | ok v =>
   obtain ⟨ms, ts'⟩ := v
   rintro e w2 ⟨rfl, R⟩
   go_wp2
   go_end0
   exact ⟨rfl, Ret.of (GB.non G1) (fun _ _ h => h) R⟩

end
theorem ay8 {ts : List Tk} {x y : List UInt8} (h : isB ts x = true) (hxy : x ≠ y) : isB ts y = false := by
 have e := a3c h
 unfold isB
 rw [e]
 have : (x == y) = false := by simpa using hxy
 rw [this, Bool.and_false]
theorem a4P {ts : List Tk} {x y : List UInt8} (h : isB ts x = true) (hxy : x ≠ y) : ¬ isB ts y = true := by rw [ay8 h hxy]; simp
def T3 (of side n m : Nat) : Nd := { ndK 16 with of := of, side := side, n := n, m := m }
def W7 (of side : Nat) (ts : List Tk) : Except Er (Nd × List Tk) :=
 if isB ts J5 = true then d7 (m8 ts.tail) fun p => .ok (T3 of side p.1 p.1, p.2)
 else d7 (p9 I3 ts) fun r => d7 (m8 r) fun p => d7 (p9 [45] p.2) fun r2 => d7 (m8 r2) fun q => .ok (T3 of side p.1 q.1, q.2)
def Z0 (ts : List Tk) : Except Er ((Nat × List UInt8) × List Tk) :=
 if (hdT ts).kind = 3 then (match M5 (hdT ts).text with
  | some a => .ok ((2, a ++ List.replicate 12 0), ts.tail)
  | none => S5 ts 112)
 else if (hdT ts).kind = 4 then (match L1 (hdT ts).text with
  | some a => .ok ((3, a), ts.tail)
  | none => S5 ts 112)
 else S5 ts 111
theorem a7D (k : Nat) (ts : List Tk) : a0Z k ts = d7 (Z0 ts) fun p => .ok ({ ndK k with of := p.1.1, addr := p.1.2 }, p.2) := by
 unfold a0Z Z0
 by_cases h3 : (hdT ts).kind = 3
 ·rw [if_pos h3, if_pos h3]
  cases M5 (hdT ts).text <;> rfl
 ·rw [if_neg h3, if_neg h3]
  by_cases h4 : (hdT ts).kind = 4
  ·rw [if_pos h4, if_pos h4]
   cases L1 (hdT ts).text <;> rfl
  ·rw [if_neg h4, if_neg h4]
   rfl
def a3R (side of : Nat) (a : List UInt8) : Nd := { ndK 14 with of := of, addr := a, side := side }
def a43 (side of : Nat) (a : List UInt8) (b : Nat) : Nd := { ndK 15 with of := of, addr := a, bits := b, side := side }
def J2 (side : Nat) (ts : List Tk) : Except Er (Nd × List Tk) :=
 if isB ts U0 = true then d7 (Z0 ts.tail) fun p => .ok (a3R side p.1.1 p.1.2, p.2)
 else if isB ts U9 = true then d7 (Z0 ts.tail) fun p => d7 (p9 [47] p.2) fun r => d7 (m8 r) fun q => .ok (a43 side p.1.1 p.1.2 q.1, q.2)
 else W7 0 side ts
def M0 (at' : Nat) (x : Except Er (Nd × List Tk)) : Out := d7 x fun p => .ok ([(p.1, at')], p.2)
theorem a1T {α β γ : Type} (x : Except Er α) (f : α → Except Er β) (g : β → Except Er γ) : d7 (d7 x f) g = d7 x fun y => d7 (f y) g := by cases x <;> rfl
theorem a8w {x : List UInt8} {ts : List Tk} (h : ¬ isB ts x = true) : p9 x ts = .error ((hdT ts).pos, if (hdT ts).kind = 0 then 110 else 111) := by rw [p9, if_neg h]; rfl
theorem aW0 {of at' side : Nat} {ts : List Tk} (hof : of ≠ 0) : a0a of at' side ts = M0 at' (W7 of side ts) := by
 unfold a0a W7 M0
 by_cases h1 : isB ts J5 = true
 ·rw [if_pos h1, if_pos h1, a1T]; rfl
 rw [if_neg h1, if_neg h1]
 by_cases h2 : isB ts I3 = true
 ·rw [if_pos h2]
  have : p9 I3 ts = .ok ts.tail := by rw [p9, if_pos h2]
  rw [this]
  simp only [D9, a1T]
  rfl
 rw [if_neg h2, if_neg (fun h => hof h.1), if_neg (fun h => hof h.1), a8w h2]
 rfl
theorem aV7 {at' side : Nat} {ts : List Tk} : a0a 0 at' side ts = M0 at' (J2 side ts) := by
 unfold a0a J2 M0
 by_cases h1 : isB ts J5 = true
 ·rw [if_pos h1, if_neg (a4P h1 (by decide)), if_neg (a4P h1 (by decide)), W7, if_pos h1, a1T]; rfl
 rw [if_neg h1]
 by_cases h2 : isB ts I3 = true
 ·rw [if_pos h2, if_neg (a4P h2 (by decide)), if_neg (a4P h2 (by decide)), W7, if_neg h1]
  have : p9 I3 ts = .ok ts.tail := by rw [p9, if_pos h2]
  rw [this]
  simp only [D9, a1T]
  rfl
 rw [if_neg h2]
 by_cases h3 : isB ts U0 = true
 ·rw [if_pos ⟨rfl, h3⟩, if_pos h3, a7D]
  simp only [a1T, D9]
  rfl
 rw [if_neg (fun h => h3 h.2), if_neg h3]
 by_cases h4 : isB ts U9 = true
 ·rw [if_pos ⟨rfl, h4⟩, if_pos h4, a7D]
  simp only [a1T, D9]
  rfl
 rw [if_neg (fun h => h4 h.2), if_neg h4, W7, if_neg h1, a8w h2]
 rfl
theorem a3M {x : List UInt8} (h : x ∈ a1s) : R0 x := ⟨(a4h x h).1, 2, .inr rfl, (a4h x h).2.1⟩
theorem F0 {x : List UInt8} (h0 : x ≠ []) (h : k8 x = .ok (5, x, 0)) : R0 x := ⟨h0, 5, .inl rfl, h⟩
theorem a5U {x : List UInt8} (h0 : x ≠ []) (h : k8 x = .ok (2, x, 0)) : R0 x := ⟨h0, 2, .inr rfl, h⟩

section
variable {c : PC} {w : World} {i nest bud : Nat} {vt vp : Value} {ts : List Tk} {ns : List (Nd × Nat)}
theorem a10 {x : List UInt8} (h : a1s.contains x = true) : R0 x := a3M (by simpa using h)
theorem a79 (h : PS c w i vt vp ts nest bud ns) :
  Calls Tryz.prog 230 #[.pointer (some ⟨c.g, 0, none⟩)] w fun e w' => e = .returned (.int .i64 (s8 ts : Int)) ∧ Ret c w vt vp (s9 ts) nest bud ns w' := by
 have C1 := a2O h L3 (a10 (by decide))
 have HC2 : Hid (∀ W, w.grownBy W none → Calls Tryz.prog 229 #[.pointer (some ⟨c.g, 0, none⟩), str J0] W fun e w' => e = .returned (.bool (isB ts J0)) ∧ a7A c W vt vp ts nest bud ns (isB ts J0) w') := fun W G => a2O (h.keep G) J0 (a10 (by decide))
 have HP : Hid (PS c w i vt vp ts nest bud ns) := h
 unfold s9 s8
 cases h1 : isB ts L3 with
 | true =>
  rw [h1] at C1
  clear h HC2
  rw [if_pos rfl]
  go_enter Tryz.func230, Tryz.ntmps230
  go_wp2_with fail
  refine C1.mono ?_
  rintro e w1 ⟨rfl, R⟩
  clear C1
  go_wp2
  go_ret
  exact ⟨rfl, Ret.less R (Nat.le_succ _)⟩
 | false =>
  rw [h1] at C1
  rw [if_neg (by simp)]
  cases h2 : isB ts J0 with
  | true =>
   rw [h2] at HC2
   rw [if_pos rfl]
   clear h
   go_enter Tryz.func230, Tryz.ntmps230
   go_wp2_with fail
   refine C1.mono ?_
   rintro e w1 ⟨rfl, hG⟩
   have G1 : w.grownBy w1 none := hG
   clear C1 hG
   go_wp2_with fail
   refine (HC2.out w1 G1).mono ?_
   rintro e w2 ⟨rfl, R⟩
   clear HC2
   go_wp2
   go_ret
   exact ⟨rfl, Ret.of (GB.non G1) (fun _ _ h => h) (Ret.less R (Nat.le_succ _))⟩
  | false =>
   rw [h2] at HC2
   rw [if_neg (by simp)]
   clear h
   go_enter Tryz.func230, Tryz.ntmps230
   go_wp2_with fail
   refine C1.mono ?_
   rintro e w1 ⟨rfl, hG⟩
   have G1 : w.grownBy w1 none := hG
   clear C1 hG
   go_wp2_with fail
   refine (HC2.out w1 G1).mono ?_
   rintro e w2 ⟨rfl, hG⟩
   have G2 : w1.grownBy w2 none := hG
   clear HC2 hG
   go_wp2
   go_ret
   have G := d3 G1 G2
   exact ⟨rfl, Ret.same (HP.out.keep G) (GB.non G)⟩
theorem a6T (h : PS c w i vt vp ts nest bud ns) :
  Calls Tryz.prog 226 #[.pointer (some ⟨c.g, 0, none⟩)] w (a0f c w vt vp nest (bud + 1) ns (fun n : Nat => .int .u32 (n : Int)) (d7 (p9 E0 ts) m8)) := by
 have C1 := a2z h E0 (a10 (by decide))
 cases hr : p9 E0 ts with
 | error er =>
  rw [hr] at C1
  rw [b02]
  clear h hr
  go_enter Tryz.func226, Tryz.ntmps226
  go_wp2_with fail
  refine C1.mono ?_
  rintro e w1 ⟨rfl, G⟩
  go_wp2
  exact ⟨rfl, rfl, G⟩
 | ok r =>
  rw [hr] at C1
  rw [D9]
  obtain ⟨nr, hnr⟩ : ∃ x, m8 r = x := ⟨_, rfl⟩
  have HN : Hid (m8 r = nr) := hnr
  rw [hnr]
  clear h hr hnr
  go_enter Tryz.func226, Tryz.ntmps226
  go_wp2_with fail
  refine C1.mono ?_
  rintro e w1 ⟨rfl, i1, vt1, vp1, H1, G1, F1⟩
  clear C1
  have CN := a2M (H1.less (Nat.le_succ bud))
  rw [HN.out] at CN
  clear H1
  go_wp2_with fail
  refine CN.mono ?_
  clear CN
  cases nr with
  | error er =>
   rintro e w2 ⟨rfl, G2⟩
   go_wp2
   exact ⟨rfl, rfl, G1.trans G2 F1⟩
  | ok v =>
   obtain ⟨m, r2⟩ := v
   rintro e w2 ⟨rfl, R2⟩
   go_wp2
   go_ret
   exact ⟨rfl, Ret.of G1 F1 R2⟩
theorem a6H : nd0.cells.toArray = #[.int .i64 0, .int .i64 0, .int .u32 0, .int .u32 0, .int .i64 0, .int .i64 0, .int .i64 0, .int .u8 0, .int .u8 0, .int .u8 0, .int .u8 0, .int .u8 0, .int .u8 0, .int .u8 0, .int .u8 0, .int .u8 0, .int .u8 0, .int .u8 0, .int .u8 0, .int .u8 0, .int .u8 0, .int .u8 0, .int .u8 0, .int .i64 0] := by kernel_rfl
theorem a0T (x : Nd) : (Tryz.prog.info? 43).map (·.size) = some x.cells.toArray.size := a4c
theorem a30 (x : Nd) : x.cells.toArray.all (·.oneCell') = true := all_oneCell_toArray x.cells_one
theorem aP5 (of side : Nat) : (T3 of side 0 0).cells.toArray = #[.int .i64 16, .int .i64 0, .int .u32 0, .int .u32 0, .int .i64 0, .int .i64 (of : Int), .int .i64 (side : Int), .int .u8 0, .int .u8 0, .int .u8 0, .int .u8 0, .int .u8 0, .int .u8 0, .int .u8 0, .int .u8 0, .int .u8 0, .int .u8 0, .int .u8 0, .int .u8 0, .int .u8 0, .int .u8 0, .int .u8 0, .int .u8 0, .int .i64 0] := by kernel_rfl
structure PV (c : PC) (w : World) (vt vp : Value) (W : World) (i' : Nat) (vt' vp' : Value) (ts' : List Tk) (nest bud' : Nat) (ns : List (Nd × Nat)) (R V : Nat) (y x : Nd) : Prop where
 ps : PS c W i' vt' vp' ts' nest bud' ns
 gb : GB w W (d5 c.g vt vp)
 sh : ∀ x, x < w.heap.size → d5 c.g vt' vp' x → d5 c.g vt vp x
 fV : ¬ d5 c.g vt' vp' V
 fR : ¬ d5 c.g vt' vp' R
 var : VAt W V 43 x.cells.toArray
 res : VAt W R 43 y.cells.toArray
 lV : w.heap.size ≤ V
 lR : w.heap.size ≤ R
 ne : R ≠ V
theorem PV.keep {W W2 : World} {i1 bud1 R V : Nat} {vt1 vp1 : Value} {ts1 : List Tk} {y x : Nd} (h : PV c w vt vp W i1 vt1 vp1 ts1 nest bud1 ns R V y x) (G : W.grownBy W2 none) : PV c w vt vp W2 i1 vt1 vp1 ts1 nest bud1 ns R V y x :=
 { h with ps := h.ps.keep G, gb := h.gb.trans (GB.non (S := d5 c.g vt vp) G) (fun _ _ h => h), var := h.var.kept G, res := h.res.kept G }
theorem PV.less {W : World} {i1 bud1 b R V : Nat} {vt1 vp1 : Value} {ts1 : List Tk} {y x : Nd} (h : PV c w vt vp W i1 vt1 vp1 ts1 nest bud1 ns R V y x) (hb : b ≤ bud1) : PV c w vt vp W i1 vt1 vp1 ts1 nest b ns R V y x := { h with ps := h.ps.less hb }
theorem PV.step {W W2 : World} {i1 bud1 bud2 R V : Nat} {vt1 vp1 : Value} {ts1 ts2 : List Tk} {y x : Nd} (h : PV c w vt vp W i1 vt1 vp1 ts1 nest bud1 ns R V y x) (r : Ret c W vt1 vp1 ts2 nest bud2 ns W2) : ∃ i2 vt2 vp2, PV c w vt vp W2 i2 vt2 vp2 ts2 nest bud2 ns R V y x := by
 obtain ⟨i2, vt2, vp2, p, g, f⟩ := r
 exact ⟨i2, vt2, vp2, p, h.gb.trans g h.sh, fun x hx k => h.sh x hx (f x (Nat.lt_of_lt_of_le hx h.gb.size) k), fun e => h.fV (f V h.var.lt e), fun e => h.fR (f R h.res.lt e), g.vat h.var h.fV, g.vat h.res h.fR, h.lV, h.lR, h.ne⟩
theorem PV.err {W W2 : World} {i1 bud1 R V : Nat} {vt1 vp1 : Value} {ts1 : List Tk} {y x : Nd} (h : PV c w vt vp W i1 vt1 vp1 ts1 nest bud1 ns R V y x) (g : GB W W2 (d5 c.g vt1 vp1)) : GB w W2 (d5 c.g vt vp) := h.gb.trans g h.sh
theorem PV.away {i0 nest0 bud0 : Nat} {ts0 : List Tk} {ns0 : List (Nd × Nat)} {S : Nat → Prop} {W W2 : World} {i1 bud1 R V : Nat} {vt1 vp1 : Value} {ts1 : List Tk} {y x y2 x2 : Nd} (hw : PS c w i0 vt vp ts0 nest0 bud0 ns0) (h : PV c w vt vp W i1 vt1 vp1 ts1 nest bud1 ns R V y x) (K : GB W W2 S) (hS : ∀ z, S z → z = V ∨ z = R) (A : VAt W2 V 43 x2.cells.toArray) (B : VAt W2 R 43 y2.cells.toArray) : PV c w vt vp W2 i1 vt1 vp1 ts1 nest bud1 ns R V y2 x2 :=
 { h with
  ps := h.ps.awayG K (fun z hz => by
   have hz2 : w.heap.size ≤ z ∧ ¬ d5 c.g vt1 vp1 z := by
    rcases hS z hz with rfl | rfl
    ·exact ⟨h.lV, h.fV⟩
    ·exact ⟨h.lR, h.fR⟩
   exact ⟨hz2.2, fun e => by have := (hw.toks.lt z e).2; omega, Nat.le_trans hw.grown.size hz2.1⟩)
  gb := h.gb.trans K (fun z hz hs => by have := h.lV; have := h.lR; rcases hS z hs with rfl | rfl <;> omega)
  var := A, res := B }
theorem PV.set {i0 nest0 bud0 : Nat} {ts0 : List Tk} {ns0 : List (Nd × Nat)} {W : World} {i1 bud1 R V : Nat} {vt1 vp1 : Value} {ts1 : List Tk} {y x : Nd} (hw : PS c w i0 vt vp ts0 nest0 bud0 ns0) (h : PV c w vt vp W i1 vt1 vp1 ts1 nest bud1 ns R V y x) (k : Nat) (v : Value) (x2 : Nd) (e : x.cells.toArray.setIfInBounds k v = x2.cells.toArray) : PV c w vt vp (W.setCell ⟨V, k, none⟩ v) i1 vt1 vp1 ts1 nest bud1 ns R V y x2 :=
 PV.away hw h (GB.of (S := fun z => z = V) (U4 W V k v) (fun z hz => by cases hz; rfl)) (fun z hz => .inl hz) (by have := h.var.set k v; rw [e] at this; exact this) (h.res.setOther v h.ne)
theorem PV.setR {i0 nest0 bud0 : Nat} {ts0 : List Tk} {ns0 : List (Nd × Nat)} {W : World} {i1 bud1 R V : Nat} {vt1 vp1 : Value} {ts1 : List Tk} {y x : Nd} (hw : PS c w i0 vt vp ts0 nest0 bud0 ns0) (h : PV c w vt vp W i1 vt1 vp1 ts1 nest bud1 ns R V y x) (y2 : Nd) : PV c w vt vp (W.setRow R y2.cells.toArray) i1 vt1 vp1 ts1 nest bud1 ns R V y2 x :=
 PV.away hw h (GB.of (S := fun z => z = R) (D7 (World.grownBy.refl W (some R)) R _ (.inl rfl)) (fun z hz => by cases hz; rfl)) (fun z hz => .inr hz) (h.var.other _ (fun e => h.ne e.symm)) (h.res.setRow _)
theorem PV.ret {W : World} {i1 bud1 R V : Nat} {vt1 vp1 : Value} {ts1 : List Tk} {y x : Nd} (h : PV c w vt vp W i1 vt1 vp1 ts1 nest bud1 ns R V y x) : Ret c w vt vp ts1 nest bud1 ns W := ⟨i1, vt1, vp1, h.ps, h.gb, h.sh⟩
theorem a6R (h : PS c w i vt vp ts nest bud ns) (of side : Nat) :
  Calls Tryz.prog 232 #[.pointer (some ⟨c.g, 0, none⟩), .int .i64 (of : Int), .int .i64 (side : Int)] w (a0f c w vt vp nest (bud + 1) ns (fun x : Nd => .agg x.cells.toArray) (W7 of side ts)) := by
 have HP : Hid (PS c w i vt vp ts nest bud ns) := h
 obtain ⟨ans, hans⟩ : ∃ a, W7 of side ts = a := ⟨_, rfl⟩
 have HANS : Hid (W7 of side ts = ans) := hans
 rw [hans]
 have K1 := World.grownBy_alloc w (.cells nd0.cells.toArray 43) none
 have RA := VAt.alloc w 43 nd0.cells.toArray
 clear h hans
 go_enter Tryz.func232, Tryz.ntmps232
 go_upto_region 1 with fail
 rw [← a6H]
 generalize w.alloc (.cells nd0.cells.toArray 43) = w1 at *
 obtain ⟨R, hR⟩ : ∃ R, w.heap.size = R := ⟨_, rfl⟩
 rw [hR] at RA ⊢
 have HR2 : Hid (w.heap.size ≤ R) := Nat.le_of_eq hR
 clear hR
 have VA0 := VAt.alloc w1 43 nd0.cells.toArray
 rw [a6H] at VA0
 go_upto_region 2 with (refine wpList_store_row rfl 43 (.tmp 7) (.tmp 10) rfl w1.heap.size (T3 of side 0 0).cells.toArray rfl (by kernel_rfl) 43 _ VA0 (a0T _) rfl (a30 _) ?_)
 rw [World.setRow_alloc_new]
 rw [← aP5 of side]
 clear VA0
 have K2 := World.grownBy_alloc w1 (.cells (T3 of side 0 0).cells.toArray 43) none
 have RA2 := RA.kept K2
 have VA := VAt.alloc w1 43 (T3 of side 0 0).cells.toArray
 have HV : Hid (w.heap.size ≤ w1.heap.size ∧ R ≠ w1.heap.size) := ⟨K1.size, fun e => by have := RA.lt; omega⟩
 have G := d3 K1 K2
 clear K1 K2 RA
 generalize w1.alloc (.cells (T3 of side 0 0).cells.toArray 43) = w2 at *
 generalize w1.heap.size = V at *
 have HP2 : Hid (PS c w2 i vt vp ts nest bud ns) := HP.out.keep G
 have C1 := a2O HP2.out J5 (a10 (by decide))
 cases hb : isB ts J5 with
 | true =>
  rw [hb] at C1
  have HA2 : Hid (d7 (m8 ts.tail) (fun p => .ok (T3 of side p.1 p.1, p.2)) = ans) := by
   show _ = ans
   rw [← HANS.out, W7, if_pos hb]
  clear hb HANS
  obtain ⟨nr, hnr⟩ : ∃ x, m8 ts.tail = x := ⟨_, rfl⟩
  have HN : Hid (m8 ts.tail = nr) := hnr
  rw [hnr] at HA2
  clear hnr
  go_wp2_with fail
  refine C1.mono ?_
  rintro e w3 ⟨rfl, i3, vt3, vp3, H3, G3, F3⟩
  clear C1
  have HF : Hid (∀ x, w.heap.size ≤ x → x < w2.heap.size → ¬ d5 c.g vt3 vp3 x) := fun x hx hx2 e => HP.out.not_foot hx (F3 x hx2 e)
  have VA3 := G3.vat VA (HP.out.not_foot HV.out.1)
  have RA3 := G3.vat RA2 (HP.out.not_foot HR2.out)
  have HG3 : Hid (GB w w3 (d5 c.g vt vp) ∧ ∀ x, x < w.heap.size → d5 c.g vt3 vp3 x → d5 c.g vt vp x) := ⟨(GB.non G).trans G3 (fun _ _ h => h), fun x hx => F3 x (Nat.lt_of_lt_of_le hx G.size)⟩
  have HVL : Hid (V < w2.heap.size ∧ R < w2.heap.size) := ⟨VA.lt, RA2.lt⟩
  have CN := a2M (H3.less (Nat.le_succ bud))
  rw [HN.out] at CN
  clear G G3 F3 VA RA2 H3 HP2
  go_wp2_with fail
  refine CN.mono ?_
  clear CN
  cases nr with
  | error er =>
   have HA3 : Hid (ans = .error er) := HA2.out.symm
   rintro e w4 ⟨rfl, G4⟩
   go_wp2
   refine ⟨rfl, ?_⟩
   rw [HA3.out]
   exact ⟨rfl, HG3.out.1.trans G4 HG3.out.2⟩
  | ok v =>
   obtain ⟨m, r2⟩ := v
   have HA3 : Hid (ans = .ok (T3 of side m m, r2)) := HA2.out.symm
   rintro e w4 ⟨rfl, i4, vt4, vp4, H4, G4, F4⟩
   have VA4 := G4.vat VA3 (HF.out V HV.out.1 HVL.out.1)
   have RA4 := G4.vat RA3 (HF.out R HR2.out HVL.out.2)
   have HQ : Hid (PS c w4 i4 vt4 vp4 r2 nest (bud + 1) ns ∧ GB w w4 (d5 c.g vt vp) ∧ (∀ x, x < w.heap.size → d5 c.g vt4 vp4 x → d5 c.g vt vp x) ∧ ¬ d5 c.g vt4 vp4 V ∧ ¬ d5 c.g vt4 vp4 R) :=
    ⟨H4, HG3.out.1.trans G4 HG3.out.2, fun x hx h => HG3.out.2 x hx (F4 x (Nat.lt_of_lt_of_le hx HG3.out.1.size) h), fun e => HF.out V HV.out.1 HVL.out.1 (F4 V VA3.lt e), fun e => HF.out R HR2.out HVL.out.2 (F4 R RA3.lt e)⟩
   clear HA2 HG3 HF HVL H4 G4 F4 VA3 RA3
   have v2 : w4.cell? ⟨V, 2, none⟩ = some (.int .u32 0) := VA4.cell 2
   have v2f := VA4.free 2
   have VA5 := VA4.set 2 (.int .u32 (m : Int))
   rw [show (T3 of side 0 0).cells.toArray.setIfInBounds 2 (.int .u32 (m : Int)) = (T3 of side m 0).cells.toArray by kernel_rfl] at VA5
   have RA5 := RA4.setOther (k := V) (i := 2) (.int .u32 (m : Int)) HV.out.2
   have HK5 : Hid (GB w4 (w4.setCell ⟨V, 2, none⟩ (.int .u32 (m : Int))) (fun x => x = V ∨ x = R)) := GB.of (U4 w4 V 2 _) (fun x hx => by cases hx; exact .inl rfl)
   go_upto_region 4 with fail
   generalize w4.setCell ⟨V, 2, none⟩ (.int .u32 (m : Int)) = w5 at *
   clear v2 v2f VA4 RA4
   have v2 : w5.cell? ⟨V, 2, none⟩ = some (.int .u32 (m : Int)) := VA5.cell 2
   have v3 : w5.cell? ⟨V, 3, none⟩ = some (.int .u32 0) := VA5.cell 3
   have v3f := VA5.free 3
   have VA6 := VA5.set 3 (.int .u32 (m : Int))
   rw [show (T3 of side m 0).cells.toArray.setIfInBounds 3 (.int .u32 (m : Int)) = (T3 of side m m).cells.toArray by kernel_rfl] at VA6
   have RA6 := RA5.setOther (k := V) (i := 3) (.int .u32 (m : Int)) HV.out.2
   have HK6 : Hid (GB w4 (w5.setCell ⟨V, 3, none⟩ (.int .u32 (m : Int))) (fun x => x = V ∨ x = R)) := HK5.out.trans (GB.of (S := fun x => x = V ∨ x = R) (U4 w5 V 3 (.int .u32 (m : Int))) (fun x hx => by cases hx; exact .inl rfl)) (fun _ _ h => h)
   go_upto_region 5 with fail
   generalize w5.setCell ⟨V, 3, none⟩ (.int .u32 (m : Int)) = w6 at *
   clear v2 v3 v3f VA5 RA5 HK5
   obtain ⟨X, hX⟩ : ∃ X, T3 of side m m = X := ⟨_, rfl⟩
   rw [hX] at VA6
   have HX : Hid (T3 of side m m = X) := hX
   clear hX
   go_wp2_with (first
    | refine wpList_load_row rfl 43 (.tmp 7) rfl V rfl 43 _ (0, 0) _ VA6 Tryz.underlying43 rfl (a0T _) ?_
    | refine wpList_store_row rfl 43 (.tmp 6) (.tmp 23) rfl R X.cells.toArray rfl rfl 43 _ RA6 (a0T _) rfl (a30 _) ?_)
   refine bodyPost_ret (a2d rfl _ _ R _ _ rfl (RA6.setRow _) Tryz.underlying43 rfl (a0T _)) rfl ?_
   rw [HA3.out, HX.out]
   obtain ⟨H4, G4, F4, fV, fR⟩ := HQ.out
   refine ⟨rfl, Ret.finG HP.out G4 F4 H4 (HK6.out.trans (GB.of (S := fun x => x = V ∨ x = R) (D7 (World.grownBy.refl w6 (some R)) R X.cells.toArray (.inl rfl)) (fun x hx => by cases hx; exact .inr rfl)) (fun _ _ h => h)) ?_⟩
   rintro x (rfl | rfl)
   ·exact ⟨HV.out.1, fV⟩
   ·exact ⟨HR2.out, fR⟩
 | false =>
  rw [hb] at C1
  have HA2 : Hid (d7 (p9 I3 ts) (fun r => d7 (m8 r) fun p => d7 (p9 [45] p.2) fun r2 => d7 (m8 r2) fun q => .ok (T3 of side p.1 q.1, q.2)) = ans) := by
   show _ = ans
   rw [← HANS.out, W7, if_neg (by rw [hb]; simp)]
  have Q2 : PV c w vt vp w2 i vt vp ts nest bud ns R V nd0 (T3 of side 0 0) := ⟨HP2.out, GB.non G, fun _ _ h => h, HP.out.not_foot HV.out.1, HP.out.not_foot HR2.out, VA, RA2, HV.out.1, HR2.out, HV.out.2⟩
  clear hb HANS VA RA2 G HP2
  go_wp2_with fail
  refine C1.mono ?_
  rintro e w3 ⟨rfl, hG⟩
  have G3 : w2.grownBy w3 none := hG
  have Q3 := Q2.keep G3
  have C2 := a2z Q3.ps I3 (a10 (by decide))
  clear C1 hG G3 Q2
  generalize p9 I3 ts = mr at *
  go_wp2_with fail
  refine C2.mono ?_
  clear C2
  cases mr with
  | error er =>
   have HA3 : Hid (ans = .error er) := HA2.out.symm
   rintro e w4 ⟨rfl, G4⟩
   go_wp2
   refine ⟨rfl, ?_⟩
   rw [HA3.out]
   exact ⟨rfl, Q3.err G4⟩
  | ok r =>
   rintro e w4 ⟨rfl, R4⟩
   obtain ⟨i4, vt4, vp4, Q4⟩ := Q3.step R4
   have C3 := a2M (Q4.ps.less (Nat.le_succ bud))
   rw [D9] at HA2
   clear Q3 R4
   generalize m8 r = nr at *
   go_wp2_with fail
   refine C3.mono ?_
   clear C3
   cases nr with
   | error er =>
    have HA3 : Hid (ans = .error er) := HA2.out.symm
    rintro e w5 ⟨rfl, G5⟩
    go_wp2
    refine ⟨rfl, ?_⟩
    rw [HA3.out]
    exact ⟨rfl, Q4.err G5⟩
   | ok v =>
    obtain ⟨n, r5⟩ := v
    rintro e w5 ⟨rfl, R5⟩
    obtain ⟨i5, vt5, vp5, Q5⟩ := Q4.step R5
    rw [D9] at HA2
    clear Q4 R5
    have Q6 := PV.set HP.out Q5 2 (.int .u32 (n : Int)) (T3 of side n 0) (by kernel_rfl)
    have v2 : w5.cell? ⟨V, 2, none⟩ = some (.int .u32 0) := Q5.var.cell 2
    have v2f := Q5.var.free 2
    clear Q5
    go_upto_region 8 with fail
    generalize w5.setCell ⟨V, 2, none⟩ (.int .u32 (n : Int)) = w6 at *
    have C4 := a2z (Q6.ps.less (Nat.le_succ bud)) [45] (F0 (by decide) (by kernel_rfl))
    clear v2 v2f
    generalize p9 [45] r5 = mr at *
    go_wp2_with fail
    refine C4.mono ?_
    clear C4
    cases mr with
    | error er =>
     have HA3 : Hid (ans = .error er) := HA2.out.symm
     rintro e w7 ⟨rfl, G7⟩
     go_wp2
     refine ⟨rfl, ?_⟩
     rw [HA3.out]
     exact ⟨rfl, Q6.err G7⟩
    | ok r7 =>
     rintro e w7 ⟨rfl, R7⟩
     obtain ⟨i7, vt7, vp7, Q7⟩ := Q6.step R7
     have C5 := a2M (Q7.ps.less (Nat.le_succ bud))
     rw [D9] at HA2
     clear Q6 R7
     generalize m8 r7 = nr at *
     go_wp2_with fail
     refine C5.mono ?_
     clear C5
     cases nr with
     | error er =>
      have HA3 : Hid (ans = .error er) := HA2.out.symm
      rintro e w8 ⟨rfl, G8⟩
      go_wp2
      refine ⟨rfl, ?_⟩
      rw [HA3.out]
      exact ⟨rfl, Q7.err G8⟩
     | ok v =>
      obtain ⟨m, r8⟩ := v
      rintro e w8 ⟨rfl, R8⟩
      obtain ⟨i8, vt8, vp8, Q8⟩ := Q7.step R8
      have HA3 : Hid (ans = .ok (T3 of side n m, r8)) := HA2.out.symm
      clear Q7 R8 HA2
      have Q9 := PV.set HP.out Q8 3 (.int .u32 (m : Int)) (T3 of side n m) (by kernel_rfl)
      have v3 : w8.cell? ⟨V, 3, none⟩ = some (.int .u32 0) := Q8.var.cell 3
      have v3f := Q8.var.free 3
      clear Q8
      go_upto_region 10 with fail
      generalize w8.setCell ⟨V, 3, none⟩ (.int .u32 (m : Int)) = w9 at *
      clear v3 v3f
      generalize T3 of side n m = X at *
      have VA9 := Q9.var
      have RA9 := Q9.res
      have HQ : Hid (PV c w vt vp (w9.setRow R X.cells.toArray) i8 vt8 vp8 r8 nest (bud + 1) ns R V X X) := PV.setR HP.out Q9 X
      clear Q9
      go_wp2_with (first
       | refine wpList_load_row rfl 43 (.tmp 7) rfl V rfl 43 _ (0, 0) _ VA9 Tryz.underlying43 rfl (a0T _) ?_
       | refine wpList_store_row rfl 43 (.tmp 6) (.tmp 42) rfl R X.cells.toArray rfl rfl 43 _ RA9 (a0T _) rfl (a30 _) ?_)
      refine bodyPost_ret (a2d rfl _ _ R _ _ rfl (RA9.setRow _) Tryz.underlying43 rfl (a0T _)) rfl ?_
      rw [HA3.out]
      exact ⟨rfl, HQ.out.ret⟩

end
theorem a4J {s : ByteArray} {l : List UInt8} (h : sl s = l) (i : Nat) : gd s i = (l.getD i 0).toNat := by unfold gd; unfold sl at h; rw [h]
theorem un4 {s : ByteArray} {a b c d : UInt8} (h : sl s = [a, b, c, d]) :
  a0x s = (J6 a.toNat && J6 b.toNat && J6 c.toNat && J6 d.toNat) ∧
  (a0x s = true → unV s = [UInt8.ofNat (16 * z6 a.toNat + z6 b.toNat), UInt8.ofNat (16 * z6 c.toNat + z6 d.toNat)]) := by
 have hs : s.size = 4 := by rw [← q7, h]; rfl
 have g0 : gd s 0 = a.toNat := a4J h 0
 have g1 : gd s 1 = b.toNat := a4J h 1
 have g2 : gd s 2 = c.toNat := a4J h 2
 have g3 : gd s 3 = d.toNat := a4J h 3
 refine ⟨?_, fun ho => ?_⟩
 ·simp [a0x, hs, a16, g0, g1, g2, g3, Bool.and_assoc]
 ·rw [unV, if_pos ho, hs]
  simp [a0I, g0, g1, g2, g3]
theorem a4F (c : Nat) : z6 c < 16 := by unfold z6; split <;> (try split) <;> omega
theorem av1 (a b c d : Nat) (ha : a < 16) (hb : b < 16) (hc : c < 16) (hd : d < 16) : a1Z [UInt8.ofNat (16 * a + b), UInt8.ofNat (16 * c + d)] 0 2 = ((4096 * a + 256 * b + 16 * c + d : Nat) : Int) := by
 have e1 : (UInt8.ofNat (16 * a + b)).toNat = 16 * a + b := by rw [UInt8.toNat_ofNat_of_lt' (by show _ < 256; omega)]
 have e2 : (UInt8.ofNat (16 * c + d)).toNat = 16 * c + d := by rw [UInt8.toNat_ofNat_of_lt' (by show _ < 256; omega)]
 have ho : okB [UInt8.ofNat (16 * a + b), UInt8.ofNat (16 * c + d)].length 0 2 = true := show okB 2 0 2 = true by decide
 rw [a1Z, if_pos ho]
 show (((0 * 256 + (UInt8.ofNat (16 * a + b)).toNat) * 256 + (UInt8.ofNat (16 * c + d)).toNat : Nat) : Int) = _
 rw [e1, e2]
 omega
theorem a3a (r : List UInt8) : Z7 0 (48 :: r) = Z7 0 r := by rw [Z7, if_pos (by decide)]; rfl
theorem a8W (a b c d : UInt8) : Z7 0 [a, b, c, d] = if (J6 a.toNat && J6 b.toNat && J6 c.toNat && J6 d.toNat) = true then some (4096 * z6 a.toNat + 256 * z6 b.toNat + 16 * z6 c.toNat + z6 d.toNat) else none := by
 simp only [Z7]
 cases J6 a.toNat <;> cases J6 b.toNat <;> cases J6 c.toNat <;> cases J6 d.toNat <;> simp <;> omega
theorem av5 (l : List UInt8) (h1 : 1 ≤ l.length) (h4 : l.length ≤ 4) : ∃ a b c d, List.replicate (4 - l.length) 48 ++ l = [a, b, c, d] ∧ I1 l = Z7 0 [a, b, c, d] := by
 match l, h1, h4 with
 | [d], _, _ => exact ⟨48, 48, 48, d, rfl, by rw [a3a, a3a, a3a]; rfl⟩
 | [c, d], _, _ => exact ⟨48, 48, c, d, rfl, by rw [a3a, a3a]; rfl⟩
 | [b, c, d], _, _ => exact ⟨48, b, c, d, rfl, by rw [a3a]; rfl⟩
 | [a, b, c, d], _, _ => exact ⟨a, b, c, d, rfl, rfl⟩
theorem aX6 (a b : ByteArray) : sl (a ++ b) = sl a ++ sl b := by simp [sl]
theorem av4 (s : ByteArray) (w : World) :
  Calls Tryz.prog 245 #[.string s] w fun e w' => e = .returned (.tuple #[.int .u16 (((I1 (sl s)).getD 0 : Nat) : Int), .bool (I1 (sl s)).isSome]) ∧ w.grownBy w' none := by
 have hl := q7 s
 by_cases h0 : s.size < 1
 ·have e : I1 (sl s) = none := by rw [I1, if_pos (by omega)]
  rw [e]
  have h0' : (s.size : Int) < 1 := by omega
  go_enter Tryz.func245, Tryz.ntmps245
  go_wp2
  go_ret2
  exact ⟨rfl, World.grownBy.refl _ _⟩
 ·have h0' : ¬ (s.size : Int) < 1 := by omega
  by_cases h4 : 4 < s.size
  ·have e : I1 (sl s) = none := by rw [I1, if_pos (by omega)]
   rw [e]
   have h4' : (4 : Int) < (s.size : Int) := by omega
   go_enter Tryz.func245, Tryz.ntmps245
   go_wp2
   go_ret2
   exact ⟨rfl, World.grownBy.refl _ _⟩
  ·have h4' : ¬ (4 : Int) < (s.size : Int) := by omega
   have h5' : (s.size : Int) ≤ 4 := by omega
   obtain ⟨a, b, c, d, hs4, hg⟩ := av5 (sl s) (by omega) (by omega)
   rw [hl] at hs4
   have HS : Hid (List.replicate (4 - s.size) 48 ++ sl s = [a, b, c, d]) := hs4
   have CU : Hid (∀ (X : ByteArray) (W : World), sl X = [a, b, c, d] → Calls Tryz.prog 247 #[.string X] W fun e w' => ∃ v ys, e = .returned (.tuple #[v, .bool (I1 (sl s)).isSome]) ∧ q8 w' W.heap.size v ys ∧ a1Z ys 0 2 = (((I1 (sl s)).getD 0 : Nat) : Int) ∧ ys.length ≤ 2 ∧ W.grownBy w' none) := fun X W hX => by
    have hXs : X.size = 4 := by rw [← q7, hX]; rfl
    obtain ⟨u1, u2⟩ := un4 hX
    refine (b0r X W (by omega) (by omega)).mono ?_
    rintro e w' ⟨v, rfl, O, G⟩
    refine ⟨v, unV X, ?_, O, ?_, ?_, G⟩
    ·rw [hg, a8W, u1]
     split <;> rename_i hh
     ·rw [hh]; rfl
     ·rw [Bool.eq_false_iff.2 hh]; rfl
    ·rw [hg, a8W, ← u1]
     split
     ·rename_i hh
      rw [u2 hh, av1 _ _ _ _ (a4F _) (a4F _) (a4F _) (a4F _)]
      rfl
     ·rename_i hh
      rw [unV, if_neg hh]
      rfl
    ·by_cases hh : a0x X = true
     ·rw [u2 hh]; exact Nat.le_refl _
     ·rw [unV, if_neg hh]; exact Nat.zero_le _
   have hlt : ((I1 (sl s)).getD 0 : Nat) < 65536 := by
    cases hq : I1 (sl s) with
    | none => decide
    | some u => exact a8O hq
   clear hg hs4
   generalize (I1 (sl s)).isSome = ok at *
   generalize (I1 (sl s)).getD 0 = u at *
   go_enter Tryz.func245, Tryz.ntmps245
   go_wp2_with fail
   refine (CU.out _ _ ?hx).mono ?_
   case hx =>
    rw [aX6, a2P, ← HS.out]
    congr 1
    have : s.size = 1 ∨ s.size = 2 ∨ s.size = 3 ∨ s.size = 4 := by omega
    rcases this with h | h | h | h <;> simp only [h] <;> rfl
   rintro e w1 ⟨v, ys, rfl, O, hv, hy, G⟩
   obtain ⟨ao, cap, rfl, hc, -⟩ := O.rd
   have CG := a6m ao cap ys 0 2 w1 hc (by omega)
   rw [hv] at CG
   have hw : IntKind.u16.wrap (u : Int) = u := by rw [IntKind.wrap_u16]; omega
   clear CU HS O hc hv
   generalize okB ys.length 0 2 = ok2 at *
   go_wp2_with fail
   refine CG.mono ?_
   rintro e w2 ⟨rfl, rfl⟩
   go_wp2
   go_ret2
   exact ⟨rfl, G⟩
def a02 (g : Nat) : Value := .int .u16 (g : Int)
abbrev a5Q (w : World) (base : Nat) (v : Value) (gs : List Nat) : Prop := w.ownsRow base 176 1 v gs.length (gs.map a02)
theorem ao1 (gs : List Nat) (g : Nat) : j4 (gs ++ [g]) = j4 gs ++ [UInt8.ofNat (g / 256), UInt8.ofNat g] := by simp [j4]
theorem a0h (gs : List Nat) : (j4 gs).length = 2 * gs.length := by
 induction gs with
 | nil => rfl
 | cons g r ih => simp only [j4, List.flatMap_cons, List.length_append, List.length_cons, List.length_nil] at *; omega
theorem a4T (a : Option Addr) (ca : Nat) (gs : List Nat) (w : World) (ha : CV w a (gs.map a02)) (hg : ∀ g ∈ gs, g < 65536) (h8 : gs.length ≤ 8) :
  Calls Tryz.prog 242 #[.slice a gs.length ca] w fun e w' => ∃ v, e = .returned v ∧ q8 w' w.heap.size v (j4 gs) ∧ w.grownBy w' none := by
 obtain ⟨i0, hi, hz0, hz1, hz2⟩ := info_parts a1g
 have H : Hid (CV w a (gs.map a02)) := ha
 have HG : Hid (∀ g ∈ gs, g < 65536) := hg
 clear ha hg
 go_enter Tryz.func242, Tryz.ntmps242
 go_wp2
 go_loopw [3, 8] (fun v i wr => ∃ j : Nat, j ≤ gs.length ∧ i = .int .i64 j ∧ q8 wr w.heap.size v (j4 (gs.take j)) ∧ w.grownBy wr none) (fun _ i _ => gs.length - (intOf i).toNat)
 case atStart => exact ⟨0, Nat.zero_le _, rfl, World.ownsRow_nil _ _ _ _, World.grownBy.refl _ _⟩
 case round =>
  obtain ⟨j, hj, rfl, O, G⟩ := hrel
  by_cases hlt : j < gs.length
  ·have hl : (j : Int) < (gs.length : Int) := by omega
   obtain ⟨b, o, rfl, hc⟩ : ∃ b o, a = some ⟨b, o, none⟩ ∧ w.cell? ⟨b, o + j, none⟩ = some (.int .u16 (gs[j] : Int)) := by
    cases a with
    | none => have := H.out.1 rfl; simp at this; subst this; simp at hlt
    | some ad =>
     obtain ⟨b, off, spot⟩ := ad
     have h0 := H.out.2 _ rfl 0 (by simp; omega)
     have hspot : spot = none := by simpa [Addr.add] using World.cell?_spot h0
     subst hspot
     refine ⟨b, off, rfl, ?_⟩
     have := H.out.2 _ rfl j (by simp; omega)
     rw [Addr.add_lit] at this
     simpa [a02] using this
   have hcj := G.cell hc (by simp)
   have hgj := HG.out gs[j] (List.getElem_mem hlt)
   have HN : Hid (j4 (gs.take (j + 1)) = j4 (gs.take j) ++ [UInt8.ofNat (gs[j] / 256), UInt8.ofNat gs[j]]) := by
    show _ = _
    rw [List.take_succ_eq_append_getElem hlt, ao1]
   have hlen : (j4 (gs.take j)).length ≤ 16 := by rw [a0h, List.length_take]; omega
   generalize gs[j] = g at *
   generalize j4 (gs.take j) = ys at *
   have hw1 : IntKind.u8.wrap ((g : Int) / 256) = ((UInt8.ofNat (g / 256)).toNat : Int) := by
    rw [IntKind.wrap_u8, UInt8.toNat_ofNat_of_lt' (by show _ < 256; omega)]; omega
   have hw2 : IntKind.u8.wrap (g : Int) = ((UInt8.ofNat g).toNat : Int) := by
    rw [IntKind.wrap_u8, UInt8.toNat_ofNat']; omega
   clear hc
   go_wp2_with (at_builtin; refine a18 rfl (.tmp 12) (.tmp 18) 115 rfl 5 i0 (.int .u8 0) 1 1 Tryz.underlying115 hi hz0 hz1 hz2 rfl (by decide) w.heap.size u3 ys.length (ys.map bv) rfl ?q1 (some ⟨wr.heap.size, 0, none⟩) 2 2 [bv (UInt8.ofNat (g / 256)), bv (UInt8.ofNat g)] rfl rfl (by simp) ?q2 (by simp [Value.oneCell', bv]) ?q3 ?q4 ?q5 ?q6)
   case q1 => exact O.alloc _
   case q2 => exact s0 wr _ _
   case q3 => unfold maxLen; omega
   case q4 => omega
   case q5 => have := G.size; simp; omega
   case q6 =>
    intro y2 w2 O2 K2
    have G2 : w.grownBy w2 none := Z3 (d3 G (World.grownBy_alloc _ _ _)) K2 (fun z hz => (O.lt z hz).1)
    have O3 : q8 w2 w.heap.size y2 (j4 (gs.take (j + 1))) := by
     rw [HN.out]
     unfold q8
     rw [List.length_append, List.map_append]
     exact O2
    clear O2 K2 O G
    go_wp2
    go_roundw
    case rel => exact ⟨j + 1, by omega, by go_num, O3, G2⟩
    case measure => simp [intOf]; omega
  ·obtain rfl : j = gs.length := by omega
   rw [List.take_length] at O
   go_wp2
   go_ret
   exact ⟨_, rfl, O, G⟩

end Go.Proofs.YtklipelnjgpnjaaGreatDoor
