/-
  The landed parser: a row, and what stands ahead of one part. Chapter 11 in the order in which the landed parser asks. No Go text here.
-/
import Derived.Test.YtbdmpjnlgdahmaaGreatDoorLotP28
import Derived.Test.YtbdmpjnlgdahmaaGreatDoorLotP20
namespace Go.Proofs.YtbdmpjnlgdahmaaGreatDoor
open Go.RowKit
set_option maxRecDepth 100000

theorem GB.cv {w w' : World} {S : Nat → Prop} {ao : Option Addr} {vs : List Value} (h : GB w w' S) (hc : CV w ao vs) (ha : ∀ ad, ao = some ad → ¬ S ad.block) : CV w' ao vs :=
  hc.same fun ad had _ hlt => h.block ad.block hlt (ha ad had)
def msr (c : PC) (W : World) : Nat := c.all.length - (match W.cell? ⟨c.g, 1, none⟩ with
  | some (.int _ z) => z.toNat
  | _ => 0)

section
variable {c : PC} {w : World} {i nest bud : Nat} {vt vp : Value} {ts : List Tk} {ns : List (Nd × Nat)}

theorem PS.msr (h : PS c w i vt vp ts nest bud ns) : msr c w = ts.length := by
  have c1 : w.cell? ⟨c.g, 1, none⟩ = some (.int .i64 (i : Int)) := h.blk.cell 1
  unfold Go.Proofs.YtbdmpjnlgdahmaaGreatDoor.msr
  rw [c1, ← h.drop, List.length_drop]
  rfl

theorem opn_then {α β : Type} (nest : Nat) (ts : List Tk) (x : Except Er α) (f : α → Except Er β) : opnV nest ts (thenE x f) = thenE (opnV nest ts x) f := by
  unfold opnV
  split <;> rfl
theorem loop_none {rec : List Tk → Out} {k f : Nat} {ms : List (Nd × Nat)} {ts : List Tk} (h : opT k ts = none) : loopG rec k f ms ts = .ok (ms, ts) := by
  cases f with
  | zero => rfl
  | succ f => rw [loopG, h]
theorem loop_some {rec : List Tk → Out} {k f : Nat} {ms : List (Nd × Nat)} {ts : List Tk} {nd : Nd} (hk : k ≠ 4) (h : opT k ts = some nd) : loopG rec k (f + 1) ms ts = thenE (rec ts.tail) fun p => loopG rec k f (ms ++ p.1 ++ [(nd, (hdT ts).pos)]) p.2 := by
  rw [loopG, h]
  simp only
  congr 1
  funext p
  rw [if_neg hk]

set_option maxHeartbeats 8000000 in
theorem prow_any (h : PS c w i vt vp ts nest bud ns) (n : Nat) (bs lb : Array Value) (hent : ∀ args w, (callFunc n args).run Tryz.prog w = .ok (.enter n args) w) (rec : Nat → List Tk → Out)
    (hin : ∀ (W : World) (i : Nat) (vt vp : Value) (ts : List Tk) (nest bud : Nat) (ns : List (Nd × Nat)), PS c W i vt vp ts nest bud ns → rec nest ts ≠ .error exP → Calls Tryz.prog n (bs ++ lb) W (RunP c W vt vp nest bud ns (rec nest ts)))
    (hfr : ∀ nest ts ns r, rec nest ts = .ok (ns, r) → Fr ts r)
    (a : Option Addr) (ca : Nat) (os : List Op3) (ha : CV w a (flatO os)) (hab : ∀ ad, a = some ad → ¬ foot c.g vt vp ad.block) (hau : ∀ ad, a = some ad → ad.block < w.heap.size) (hos : ∀ o ∈ os, Asked o.1) (hm : os.length ≤ 1000) (k : Nat) (hk : k ≠ 4) (hop : ∀ ts, TksG ts → opT k ts = findO os (hdT ts).text)
    (ans : Out) (hans : thenE (rec nest ts) (fun p => loopG (rec nest) k p.2.length p.1 p.2) = ans) (hne : ans ≠ .error exP) :
    Calls Tryz.prog 45 #[.pointer (some ⟨c.g, 0, none⟩), .func (.func n) bs lb, .slice a os.length ca] w (RunP c w vt vp nest bud ns ans) := by
  have HP : Hid (PS c w i vt vp ts nest bud ns) := h
  have HA : Hid (CV w a (flatO os) ∧ (∀ ad, a = some ad → ¬ foot c.g vt vp ad.block) ∧ ∀ ad, a = some ad → ad.block < w.heap.size) := ⟨ha, hab, hau⟩
  have HIN : Hid (∀ (W : World) (i : Nat) (vt vp : Value) (ts : List Tk) (nest bud : Nat) (ns : List (Nd × Nat)), PS c W i vt vp ts nest bud ns → rec nest ts ≠ .error exP → Calls Tryz.prog n (bs ++ lb) W (RunP c W vt vp nest bud ns (rec nest ts))) := hin
  have HOS : Hid ((∀ o ∈ os, Asked o.1) ∧ ∀ ts, TksG ts → opT k ts = findO os (hdT ts).text) := ⟨hos, hop⟩
  have HFR : Hid (∀ nest ts ns r, rec nest ts = .ok (ns, r) → Fr ts r) := hfr
  have HNE : Hid (ans ≠ .error exP) := hne
  have h1 : rec nest ts ≠ .error exP := fun e => by rw [e] at hans; exact hne hans.symm
  have CI := hin w i vt vp ts nest bud ns h h1
  have HANS : Hid (thenE (rec nest ts) (fun p => loopG (rec nest) k p.2.length p.1 p.2) = ans) := hans
  obtain ⟨r0, hr0⟩ : ∃ r, rec nest ts = r := ⟨_, rfl⟩
  rw [hr0] at CI HANS
  clear h ha hin hos hop hne hab hau hfr h1 hans hr0
  go_enter Tryz.func45, Tryz.ntmps45
  go_wp2_with fail
  refine CI.mono ?_
  clear CI
  cases r0 with
  | error er =>
    have ha : ans = .error er := HANS.out.symm
    subst ha
    rintro e w1 ⟨rfl, G1⟩
    go_wp2
    exact ⟨rfl, rfl, G1⟩
  | ok v =>
    obtain ⟨ms, ts1⟩ := v
    rintro e w1 ⟨rfl, i1, vt1, vp1, H1, G1, F1⟩
    have HQ : Hid (PS c w1 i1 vt1 vp1 ts1 nest bud (ns ++ ms) ∧ GB w w1 (foot c.g vt vp) ∧ ∀ x, x < w.heap.size → foot c.g vt1 vp1 x → foot c.g vt vp x) := ⟨H1, G1, F1⟩
    have HL : Hid (loopG (rec nest) k ts1.length ms ts1 = ans) := HANS.out
    clear H1 G1 F1 HANS
    go_wp2
    go_loopw [] (fun wr => ∃ (f : Nat) (mx : List (Nd × Nat)) (tx : List Tk) (ix : Nat) (vx vy : Value), tx.length ≤ f ∧ Hid (loopG (rec nest) k f mx tx = ans) ∧ PS c wr ix vx vy tx nest bud (ns ++ mx) ∧ GB w wr (foot c.g vt vp) ∧ ∀ x, x < w.heap.size → foot c.g vx vy x → foot c.g vt vp x) (fun wr => msr c wr)
    case atStart => exact ⟨ts1.length, ms, ts1, i1, vt1, vp1, Nat.le_refl _, HL, HQ.out.1, HQ.out.2.1, HQ.out.2.2⟩
    case round =>
      clear HQ HL
      obtain ⟨f, mx, tx, ix, vx, vy, hf, HL, H2, G2, F2⟩ := hrel
      have hfo := HOS.out.2 tx H2.good
      have CX := G2.cv HA.out.1 HA.out.2.1
      have hlen := List.length_pos_iff.2 H2.good.ne
      cases hO : opT k tx with
      | none =>
        rw [hO] at hfo
        have CF := further_any H2 n bs lb hent rec HIN.out a ca os CX HOS.out.1 hm (fun h => absurd hfo.symm h)
        rw [← hfo] at CF
        have HA2 : Hid (ans = .ok (mx, tx)) := by show ans = _; rw [← HL.out, loop_none hO]
        have HQ : Hid (PS c wr ix vx vy tx nest bud (ns ++ mx) ∧ GB w wr (foot c.g vt vp) ∧ ∀ x, x < w.heap.size → foot c.g vx vy x → foot c.g vt vp x) := ⟨H2, G2, F2⟩
        clear hO hfo CX HL H2 G2 F2 hf hlen
        go_wp2_with fail
        refine CF.mono ?_
        rintro e w2 ⟨rfl, G3⟩
        clear CF
        go_wp2
        go_end0
        rw [HA2.out]
        exact ⟨rfl, ix, vx, vy, HQ.out.1.keep G3, HQ.out.2.1.trans (GB.non (S := foot c.g vt vp) G3) (fun _ _ h => h), HQ.out.2.2⟩
      | some nd =>
        rw [hO] at hfo
        obtain ⟨f, rfl⟩ : ∃ g, f = g + 1 := ⟨f - 1, by omega⟩
        have e1 : thenE (rec nest tx.tail) (fun p => loopG (rec nest) k f (mx ++ p.1 ++ [(nd, (hdT tx).pos)]) p.2) = ans := by rw [← HL.out, loop_some hk hO]
        have hne2 : rec nest tx.tail ≠ .error exP := fun e => by rw [e] at e1; exact HNE.out e1.symm
        have CF := further_any H2 n bs lb hent rec HIN.out a ca os CX HOS.out.1 hm (fun _ => hne2)
        rw [← hfo] at CF
        have HE1 : Hid (thenE (rec nest tx.tail) (fun p => loopG (rec nest) k f (mx ++ p.1 ++ [(nd, (hdT tx).pos)]) p.2) = ans) := e1
        have HFL : Hid (∀ ns r, rec nest tx.tail = .ok (ns, r) → r.length + 2 ≤ tx.length) := fun ns r hr => by
          have := (HFR.out _ _ _ _ hr).2
          rw [List.length_tail] at this
          omega
        have HM : Hid (msr c wr = tx.length ∧ tx.length ≤ f + 1) := ⟨H2.msr, hf⟩
        have HQ : Hid (GB w wr (foot c.g vt vp) ∧ ∀ x, x < w.heap.size → foot c.g vx vy x → foot c.g vt vp x) := ⟨G2, F2⟩
        clear hO hfo CX HL H2 G2 F2 hf hlen e1 hne2
        go_wp2_with fail
        refine CF.mono ?_
        clear CF
        generalize rec nest tx.tail = rr at *
        cases rr with
        | error er =>
          have ha : ans = .error er := HE1.out.symm
          rintro e w2 ⟨rfl, G3⟩
          go_wp2
          refine ⟨rfl, ?_⟩
          rw [ha]
          exact ⟨rfl, HQ.out.1.trans G3 HQ.out.2⟩
        | ok v =>
          obtain ⟨p1, p2⟩ := v
          rintro e w2 ⟨rfl, i3, v3, v4, H3, G3, F3⟩
          have HL2 : Hid (loopG (rec nest) k f (mx ++ p1 ++ [(nd, (hdT tx).pos)]) p2 = ans) := HE1.out
          have hlen := HFL.out p1 p2 rfl
          have HM2 : Hid (msr c w2 = p2.length) := H3.msr
          have HR : Hid (PS c w2 i3 v3 v4 p2 nest bud (ns ++ (mx ++ p1 ++ [(nd, (hdT tx).pos)])) ∧ GB w w2 (foot c.g vt vp) ∧ ∀ x, x < w.heap.size → foot c.g v3 v4 x → foot c.g vt vp x) :=
            ⟨by rw [← List.append_assoc, ← List.append_assoc]; exact H3, HQ.out.1.trans G3 HQ.out.2, fun x hx h => HQ.out.2 x hx (F3 x (Nat.lt_of_lt_of_le hx HQ.out.1.size) h)⟩
          clear H3 G3 F3 HE1 HFL HQ
          go_wp2
          go_roundw
          case rel => exact ⟨f, _, p2, i3, v3, v4, by have := HM.out; omega, HL2, HR.out.1, HR.out.2.1, HR.out.2.2⟩
          case measure => rw [HM2.out, HM.out.1]; omega

set_option maxHeartbeats 8000000 in
theorem punary_any (h : PS c w i vt vp ts nest bud ns) (kd : Nat) (n : Nat) (bs lb : Array Value) (hent : ∀ args w, (callFunc n args).run Tryz.prog w = .ok (.enter n args) w) (n2 : Nat) (bs2 lb2 : Array Value) (hent2 : ∀ args w, (callFunc n2 args).run Tryz.prog w = .ok (.enter n2 args) w)
    (rec rec2 : Nat → List Tk → Out)
    (hin : ∀ (W : World) (i : Nat) (vt vp : Value) (ts : List Tk) (nest bud : Nat) (ns : List (Nd × Nat)), PS c W i vt vp ts nest bud ns → rec nest ts ≠ .error exP → Calls Tryz.prog n (bs ++ lb) W (RunP c W vt vp nest bud ns (rec nest ts)))
    (hin2 : ∀ (W : World) (i : Nat) (vt vp : Value) (ts : List Tk) (nest bud : Nat) (ns : List (Nd × Nat)), PS c W i vt vp ts nest bud ns → rec2 nest ts ≠ .error exP → Calls Tryz.prog n2 (bs2 ++ lb2) W (RunP c W vt vp nest bud ns (rec2 nest ts)))
    (a : Option Addr) (ca : Nat) (xs : List (List UInt8)) (ha : CV w a (xs.map str)) (hm : xs.length ≤ 1000)
    (ans : Out) (hyes : (hdT ts).text ∈ xs → (hdT ts).kind ≠ 0 ∧ opnV nest ts (thenE (rec (nest + 1) ts.tail) fun p => .ok (p.1 ++ [(ndK kd, (hdT ts).pos)], p.2)) = ans) (hno : (hdT ts).text ∉ xs → rec2 nest ts = ans) (hne : ans ≠ .error exP) :
    Calls Tryz.prog 90 #[.pointer (some ⟨c.g, 0, none⟩), .int .i64 (kd : Int), .func (.func n) bs lb, .func (.func n2) bs2 lb2, .slice a xs.length ca] w (RunP c w vt vp nest bud ns ans) := by
  have CS := stands_any h a ca xs ha hm
  have HP : Hid (PS c w i vt vp ts nest bud ns) := h
  by_cases hx : (hdT ts).text ∈ xs
  · obtain ⟨hk, ha2⟩ := hyes hx
    rw [decide_eq_true hx] at CS
    rw [opn_then] at ha2
    have HR : Hid (nest ≠ 200 → rec (nest + 1) ts.tail ≠ .error exP) := fun hn e => by
      rw [opnV, if_neg hn, e] at ha2
      exact hne ha2.symm
    have HC : Hid (∀ W, w.grownBy W none → Calls Tryz.prog 102 #[.pointer (some ⟨c.g, 0, none⟩), .func (.func n) bs lb] W (RunX c W vt vp (fun _ => False) nest (bud + 1) ns (fun _ => .agg (tkC (hdT ts))) id (fun _ _ => True) (opnV nest ts (rec (nest + 1) ts.tail)))) := fun W G =>
      nested_any (h.keep G) hk n bs lb hent (fun _ => False) id (fun _ _ => True) (rec (nest + 1) ts.tail) (fun _ h => h.elim) (fun _ _ _ h _ => h) (fun W i1 vt1 vp1 _ _ h1 => by
        have := h1.nest_le
        exact (hin W i1 vt1 vp1 ts.tail (nest + 1) (bud + 1) ns h1 (HR.out (by omega))).mono fun _ _ h => RunX.of_run h)
    have HA : Hid (thenE (opnV nest ts (rec (nest + 1) ts.tail)) (fun p => .ok (p.1 ++ [(ndK kd, (hdT ts).pos)], p.2)) = ans) := ha2
    generalize opnV nest ts (rec (nest + 1) ts.tail) = rr at *
    have HO3 : Hid (∀ W i vt vp ts nest bud ns, PS c W i vt vp ts nest (bud + 1) ns → ∀ t : Tk, Calls Tryz.prog 89 #[.pointer (some ⟨c.g, 0, none⟩), .agg (tkC t), .agg ([.int .i64 (kd : Int), .int .i64 0, .int .u32 0, .int .u32 0, .int .i64 0, .int .i64 0, .int .i64 0, .int .u8 0, .int .u8 0, .int .u8 0, .int .u8 0, .int .u8 0, .int .u8 0, .int .u8 0, .int .u8 0, .int .u8 0, .int .u8 0, .int .u8 0, .int .u8 0, .int .u8 0, .int .u8 0, .int .u8 0, .int .u8 0, .int .i64 0] : List Value).toArray] W fun e w' => e = .returned (.tuple #[]) ∧ Ret c W vt vp ts nest bud (ns ++ [(ndK kd, t.pos)]) w') := fun W i vt vp ts nest bud ns h t => by
      have := put_any h t (Op3.nd ([], kd, 0))
      rw [op3_cells] at this
      exact this
    clear h ha hin hin2 hyes hno hne hx ha2 HR hk
    go_enter Tryz.func90, Tryz.ntmps90
    go_wp2_with fail
    refine CS.mono ?_
    rintro e w1 ⟨rfl, G1⟩
    have CN := HC.out w1 G1
    clear CS HC
    go_wp2_with fail
    refine CN.mono ?_
    clear CN
    intro e w2 hX
    have hB := hX.back
    clear hX
    cases rr with
    | error er =>
      obtain ⟨rfl, G2⟩ := hB
      have HA2 : Hid (ans = .error er) := HA.out.symm
      go_wp2
      refine ⟨rfl, ?_⟩
      rw [HA2.out]
      exact ⟨rfl, (GB.non (S := foot c.g vt vp) G1).trans G2 (fun _ _ h => h)⟩
    | ok v =>
      obtain ⟨ms, ts'⟩ := v
      obtain ⟨rfl, i3, vt3, vp3, H3, G3, F3⟩ := hB
      have CP := HO3.out w2 i3 vt3 vp3 ts' nest bud (ns ++ ms) H3 (hdT ts)
      have HQ : Hid (GB w w2 (foot c.g vt vp) ∧ ∀ x, x < w.heap.size → foot c.g vt3 vp3 x → foot c.g vt vp x) := ⟨(GB.non (S := foot c.g vt vp) G1).trans G3 (fun _ _ h => h), fun x hx => F3 x (Nat.lt_of_lt_of_le hx G1.size)⟩
      have ha : ans = .ok (ms ++ [(ndK kd, (hdT ts).pos)], ts') := HA.out.symm
      have HA2 : Hid (ans = .ok (ms ++ [(ndK kd, (hdT ts).pos)], ts')) := ha
      clear HA HO3 H3 G3 F3 G1 ha
      obtain ⟨TC, hTC⟩ : ∃ T, tkC (hdT ts) = T := ⟨_, rfl⟩
      rw [hTC] at CP ⊢
      clear hTC
      go_wp2_with fail
      refine CP.mono ?_
      rintro e w3 ⟨rfl, R⟩
      clear CP
      go_wp2
      go_end0
      rw [HA2.out]
      refine ⟨rfl, ?_⟩
      rw [← List.append_assoc]
      exact Ret.of HQ.out.1 HQ.out.2 R
  · have ha2 := hno hx
    rw [decide_eq_false hx] at CS
    have HC : Hid (∀ W, w.grownBy W none → Calls Tryz.prog n2 (bs2 ++ lb2) W (RunP c W vt vp nest bud ns ans)) := fun W G => by
      have := hin2 W i vt vp ts nest bud ns (h.keep G) (by rw [ha2]; exact hne)
      rw [ha2] at this
      exact this
    have HNE : Hid (ans ≠ .error exP) := hne
    clear h ha hin hin2 hyes hno hne hx ha2
    go_enter Tryz.func90, Tryz.ntmps90
    go_wp2_with fail
    refine CS.mono ?_
    rintro e w1 ⟨rfl, G1⟩
    have CN := HC.out w1 G1
    clear CS HC
    go_wp2_with fail
    refine CN.mono ?_
    clear CN
    cases ans with
    | error er =>
      rintro e w2 ⟨rfl, G2⟩
      go_wp2
      exact ⟨rfl, rfl, (GB.non (S := foot c.g vt vp) G1).trans G2 (fun _ _ h => h)⟩
    | ok v =>
      obtain ⟨ms, ts'⟩ := v
      rintro e w2 ⟨rfl, R⟩
      go_wp2
      go_end0
      exact ⟨rfl, Ret.of (GB.non G1) (fun _ _ h => h) R⟩

end
end Go.Proofs.YtbdmpjnlgdahmaaGreatDoor

namespace Go.Proofs.YtbdmpjnlgdahmaaGreatDoor
open Go.RowKit
set_option maxRecDepth 100000

theorem isB_other {ts : List Tk} {x y : List UInt8} (h : isB ts x = true) (hxy : x ≠ y) : isB ts y = false := by
  have e := isB_text h
  unfold isB
  rw [e]
  have : (x == y) = false := by simpa using hxy
  rw [this, Bool.and_false]
theorem isB_no {ts : List Tk} {x y : List UInt8} (h : isB ts x = true) (hxy : x ≠ y) : ¬ isB ts y = true := by rw [isB_other h hxy]; simp

def portN (of side n m : Nat) : Nd := { ndK 16 with of := of, side := side, n := n, m := m }
def portV (of side : Nat) (ts : List Tk) : Except Er (Nd × List Tk) :=
  if isB ts wPort = true then thenE (numT ts.tail) fun p => .ok (portN of side p.1 p.1, p.2)
  else thenE (mustV wPortrange ts) fun r => thenE (numT r) fun p => thenE (mustV [45] p.2) fun r2 => thenE (numT r2) fun q => .ok (portN of side p.1 q.1, q.2)
def addrV (ts : List Tk) : Except Er ((Nat × List UInt8) × List Tk) :=
  if (hdT ts).kind = 3 then (match parse4V (hdT ts).text with
    | some a => .ok ((2, a ++ List.replicate 12 0), ts.tail)
    | none => failV ts 112)
  else if (hdT ts).kind = 4 then (match parse6V (hdT ts).text with
    | some a => .ok ((3, a), ts.tail)
    | none => failV ts 112)
  else failV ts 111
theorem addr_T (k : Nat) (ts : List Tk) : addrT k ts = thenE (addrV ts) fun p => .ok ({ ndK k with of := p.1.1, addr := p.1.2 }, p.2) := by
  unfold addrT addrV
  by_cases h3 : (hdT ts).kind = 3
  · rw [if_pos h3, if_pos h3]
    cases parse4V (hdT ts).text <;> rfl
  · rw [if_neg h3, if_neg h3]
    by_cases h4 : (hdT ts).kind = 4
    · rw [if_pos h4, if_pos h4]
      cases parse6V (hdT ts).text <;> rfl
    · rw [if_neg h4, if_neg h4]
      rfl
def hostN (side of : Nat) (a : List UInt8) : Nd := { ndK 14 with of := of, addr := a, side := side }
def netN (side of : Nat) (a : List UInt8) (b : Nat) : Nd := { ndK 15 with of := of, addr := a, bits := b, side := side }
def hnpV (side : Nat) (ts : List Tk) : Except Er (Nd × List Tk) :=
  if isB ts wHost = true then thenE (addrV ts.tail) fun p => .ok (hostN side p.1.1 p.1.2, p.2)
  else if isB ts wNet = true then thenE (addrV ts.tail) fun p => thenE (mustV [47] p.2) fun r => thenE (numT r) fun q => .ok (netN side p.1.1 p.1.2 q.1, q.2)
  else portV 0 side ts
def one1 (at' : Nat) (x : Except Er (Nd × List Tk)) : Out := thenE x fun p => .ok ([(p.1, at')], p.2)
theorem then_then {α β γ : Type} (x : Except Er α) (f : α → Except Er β) (g : β → Except Er γ) : thenE (thenE x f) g = thenE x fun y => thenE (f y) g := by cases x <;> rfl
theorem fail_must {x : List UInt8} {ts : List Tk} (h : ¬ isB ts x = true) : mustV x ts = .error ((hdT ts).pos, if (hdT ts).kind = 0 then 110 else 111) := by rw [mustV, if_neg h]; rfl
theorem sided_port {of at' side : Nat} {ts : List Tk} (hof : of ≠ 0) : sidedB of at' side ts = one1 at' (portV of side ts) := by
  unfold sidedB portV one1
  by_cases h1 : isB ts wPort = true
  · rw [if_pos h1, if_pos h1, then_then]; rfl
  rw [if_neg h1, if_neg h1]
  by_cases h2 : isB ts wPortrange = true
  · rw [if_pos h2]
    have : mustV wPortrange ts = .ok ts.tail := by rw [mustV, if_pos h2]
    rw [this]
    simp only [thenE_ok, then_then]
    rfl
  rw [if_neg h2, if_neg (fun h => hof h.1), if_neg (fun h => hof h.1), fail_must h2]
  rfl
theorem sided_hnp {at' side : Nat} {ts : List Tk} : sidedB 0 at' side ts = one1 at' (hnpV side ts) := by
  unfold sidedB hnpV one1
  by_cases h1 : isB ts wPort = true
  · rw [if_pos h1, if_neg (isB_no h1 (by decide)), if_neg (isB_no h1 (by decide)), portV, if_pos h1, then_then]; rfl
  rw [if_neg h1]
  by_cases h2 : isB ts wPortrange = true
  · rw [if_pos h2, if_neg (isB_no h2 (by decide)), if_neg (isB_no h2 (by decide)), portV, if_neg h1]
    have : mustV wPortrange ts = .ok ts.tail := by rw [mustV, if_pos h2]
    rw [this]
    simp only [thenE_ok, then_then]
    rfl
  rw [if_neg h2]
  by_cases h3 : isB ts wHost = true
  · rw [if_pos ⟨rfl, h3⟩, if_pos h3, addr_T]
    simp only [then_then, thenE_ok]
    rfl
  rw [if_neg (fun h => h3 h.2), if_neg h3]
  by_cases h4 : isB ts wNet = true
  · rw [if_pos ⟨rfl, h4⟩, if_pos h4, addr_T]
    simp only [then_then, thenE_ok]
    rfl
  rw [if_neg (fun h => h4 h.2), if_neg h4, portV, if_neg h1, fail_must h2]
  rfl

/-- Asked for, one by one. -/
theorem ask_w {x : List UInt8} (h : x ∈ wordsL) : Asked x := ⟨(tok_words x h).1, 2, .inr rfl, (tok_words x h).2.1⟩
theorem ask_s {x : List UInt8} (h0 : x ≠ []) (h : tokV x = .ok (5, x, 0)) : Asked x := ⟨h0, 5, .inl rfl, h⟩
theorem ask_2 {x : List UInt8} (h0 : x ≠ []) (h : tokV x = .ok (2, x, 0)) : Asked x := ⟨h0, 2, .inr rfl, h⟩

end Go.Proofs.YtbdmpjnlgdahmaaGreatDoor
