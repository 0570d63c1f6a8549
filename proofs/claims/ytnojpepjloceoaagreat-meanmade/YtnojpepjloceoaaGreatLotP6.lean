/-
  Package forge as landed: number, field, saysProtocol, address, inner, ports, behind. The landed reader's six steps, in words, and that they are the look of chapter 7. The landed reader: its block of thirteen cells; what it reads. The landed reader: Length, Address, Protocol, Inner.
-/
import Derived.Test.YtnojpepjloceoaaGreatLotP5
import Derived.Test.YtnojpepjloceoaaGreatFrameV
import Derived.Test.YtnojpepjloceoaaGreatLotP4
import Derived.WalkLawsBesides
import Derived.Deep.RegionHeld3
namespace Go.Proofs.YtnojpepjloceoaaGreat
open Go.RowKit
set_option maxRecDepth 100000

set_option maxHeartbeats 400000 in
theorem number_any (S v : Nat) (s : Int) (hs : s = (S : Int)) (hS : S = 1 ∨ S = 2 ∨ S = 4) (hv : v ≤ 4294967295) (w : World) :
    Calls Tryz.prog 41 #[.int .i64 s, .int .u32 v] w fun e w' => ∃ u, e = .returned u ∧ Owns w' w.heap.size u (bytesV S v) ∧ w.grownBy w' none := by
  subst hs
  obtain ⟨i0, hi, hz0, hz1, hz2⟩ := info_parts info5
  go_enter Tryz.func41, Tryz.ntmps41
  go_wp2_with (at_make; refine wpList_make_full _ rfl (.tmp 8) (.tmp 8) 26 rfl w.heap.size 5 i0 (.int .u8 0) 1 Tryz.underlying26 hi hz0 hz1 .i64 .i64 (S : Int) (S : Int) S rfl rfl rfl rfl ?q1 ?q2 ?q3 ?q4)
  case q1 => rw [hz2]; omega
  case q2 => unfold maxLen; omega
  case q3 => exact Nat.le_refl _
  case q4 =>
    intro w1 h1 h2
    have O : Owns w1 w.heap.size (.slice (some ⟨w.heap.size, 0, none⟩) S S) (List.replicate S 0) := by
      rw [toList_madeCells_one] at h1
      unfold Owns
      simpa [bv] using h1
    obtain ⟨ao, cap, hv1, C, h0, -⟩ := O.rd
    rw [List.length_replicate] at hv1
    simp only [Value.slice.injEq] at hv1
    obtain ⟨rfl, -, rfl⟩ := hv1
    have hp := put_any (some ⟨w.heap.size, 0, none⟩) S (List.replicate S 0) 0 S v w1 C (by simp) (by simp; omega) hv
    rw [(bytesV_put S v hS).1, (bytesV_put S v hS).2, List.length_replicate] at hp
    have HP := hp
    clear h1 O C h0 hp
    go_wp2_with fail
    refine HP.mono ?_
    rintro e w2 ⟨u, rfl, O2, K2⟩
    have G2 := grown_trans h2 K2
    have O3 : Owns w2 w.heap.size u (bytesV S v) := owns_mono O2 h2.size
    clear O2 K2
    go_wp2
    go_ret
    exact ⟨u, rfl, O3, G2⟩

theorem be1_eq (v : Nat) : bytesV 1 v = [UInt8.ofNat v] := by
  show [UInt8.ofNat (shr8 v 0)] = _
  simp [shr8]

theorem number1 (v : Nat) (hv : v ≤ 4294967295) (w : World) : Calls Tryz.prog 41 #[.int .i64 1, .int .u32 v] w fun e w' => ∃ u, e = .returned u ∧ Owns w' w.heap.size u [UInt8.ofNat v] ∧ w.grownBy w' none := by
  have k := number_any 1 v 1 rfl (.inl rfl) hv w
  rw [be1_eq] at k
  exact k
theorem number2 (v : Nat) (hv : v ≤ 4294967295) (w : World) : Calls Tryz.prog 41 #[.int .i64 2, .int .u32 v] w fun e w' => ∃ u, e = .returned u ∧ Owns w' w.heap.size u (be2 v) ∧ w.grownBy w' none := by
  have k := number_any 2 v 2 rfl (.inr (.inl rfl)) hv w
  rw [be2_eq] at k
  exact k
theorem number4 (v : Nat) (hv : v ≤ 4294967295) (w : World) : Calls Tryz.prog 41 #[.int .i64 4, .int .u32 v] w fun e w' => ∃ u, e = .returned u ∧ Owns w' w.heap.size u (be4 v) ∧ w.grownBy w' none := by
  have k := number_any 4 v 4 rfl (.inr (.inr rfl)) hv w
  rw [be4_eq] at k
  exact k

set_option maxRecDepth 100000 in
set_option maxHeartbeats 1000000 in
theorem lfield_any (l : Lk) (s : Sp) (a : Option Addr) (ca : Nat) (p : Nat) (w : World) (ok : s.ok) (hp : p ≤ 4294967295) : Calls Tryz.prog 39 #[.agg (lkA l), .agg (spA s a ca), .int .u32 (p : Int)] w fun e w' => ∃ v, e = .returned v ∧ Owns w' w.heap.size v (fieldV l s.plain p) ∧ w.grownBy w' none := by
  have I := ls_boxes w l s a ca
  have x1 : ((w.alloc (.cells (lkA l) 23)).alloc (.cells (spA s a ca) 28)).cell? ⟨w.heap.size, 1, none⟩ = some (.bool l.pfc) := I.1.cell 1
  have x2 : ((w.alloc (.cells (lkA l) 23)).alloc (.cells (spA s a ca) 28)).cell? ⟨w.heap.size + 1, 0, none⟩ = some (.bool s.plain) := (show SAt _ _ s a ca from ⟨I.2.1, ok⟩).eight.1
  have G0 := I.2.2
  have hB : Hid (w.heap.size ≤ ((w.alloc (.cells (lkA l) 23)).alloc (.cells (spA s a ca) 28)).heap.size) := G0.size
  clear I
  by_cases h : l.pfc = true ∧ s.plain = false ∧ p < 256
  · obtain ⟨h1, h2, h3⟩ := h
    have e : fieldV l s.plain p = [UInt8.ofNat p] := by rw [fieldV, if_pos ⟨h1, h2, h3⟩]
    rw [e]
    rw [h1] at x1
    rw [h2] at x2
    have h3' : decide ((p : Int) < 256) = true := decide_eq_true (by omega)
    clear e
    go_enter Tryz.func39, Tryz.ntmps39
    go_wp2_with fail
    refine (number1 p hp _).mono ?_
    rintro e w2 ⟨u, rfl, O2, K2⟩
    go_wp2
    go_ret
    exact ⟨_, rfl, owns_mono O2 hB.out, grown_trans G0 K2⟩
  · have e : fieldV l s.plain p = be2 p := by rw [fieldV, if_neg h]
    rw [e]
    have hd : l.pfc = false ∨ (l.pfc = true ∧ s.plain = true) ∨ (l.pfc = true ∧ s.plain = false ∧ decide ((p : Int) < 256) = false) := by
      cases h1 : l.pfc with
      | false => exact .inl rfl
      | true =>
        cases h2 : s.plain with
        | true => exact .inr (.inl ⟨rfl, rfl⟩)
        | false => exact .inr (.inr ⟨rfl, rfl, decide_eq_false (fun hh => h ⟨h1, h2, by omega⟩)⟩)
    clear h e
    rcases hd with h1 | ⟨h1, h2⟩ | ⟨h1, h2, h3⟩
    all_goals
      rw [h1] at x1
      try rw [h2] at x2
      go_enter Tryz.func39, Tryz.ntmps39
      go_wp2_with fail
      refine (number2 p hp _).mono ?_
      rintro e w2 ⟨u, rfl, O2, K2⟩
      go_wp2
      go_ret
      exact ⟨_, rfl, owns_mono O2 hB.out, grown_trans G0 K2⟩

set_option maxRecDepth 100000 in
theorem fsays_any (s : Sp) (a : Option Addr) (ca : Nat) (w : World) (ok : s.ok) : Calls Tryz.prog 23 #[.agg (spA s a ca)] w fun e w' => e = .returned (.bool (saidB s)) ∧ w.grownBy w' none := by
  have S0 : SAt (w.alloc (.cells (spA s a ca) 28)) w.heap.size s a ca := ⟨VAt.alloc w _ _, ok⟩
  have G0 : w.grownBy (w.alloc (.cells (spA s a ca) 28)) none := World.grownBy_alloc _ _ _
  have c2 := S0.eight.2.2.1
  have c3 := S0.eight.2.2.2.1
  clear S0
  cases hm : s.multi with
  | false =>
    rw [hm] at c2
    go_enter Tryz.func23, Tryz.ntmps23
    go_wp2
    go_ret
    exact ⟨ret_bool (by simp [saidB, hm]), G0⟩
  | true =>
    rw [hm] at c2
    go_enter Tryz.func23, Tryz.ntmps23
    go_wp2
    go_ret
    exact ⟨ret_bool (by simp [saidB, hm]), G0⟩

set_option maxRecDepth 100000 in
theorem faddress_any (s : Sp) (a : Option Addr) (ca : Nat) (w : World) (ok : s.ok) : Calls Tryz.prog 13 #[.agg (spA s a ca)] w fun e w' => ∃ v, e = .returned v ∧ Owns w' w.heap.size v (wideV s) ∧ w.grownBy w' none := by
  have S0 : SAt (w.alloc (.cells (spA s a ca) 28)) w.heap.size s a ca := ⟨VAt.alloc w _ _, ok⟩
  have G0 : w.grownBy (w.alloc (.cells (spA s a ca) 28)) none := World.grownBy_alloc _ _ _
  have hB : Hid (w.heap.size ≤ (w.alloc (.cells (spA s a ca) 28)).heap.size) := G0.size
  have c1 := S0.eight.2.1
  clear S0
  cases hw : s.wide with
  | false =>
    rw [hw] at c1
    have e : wideV s = [] := by rw [wideV, if_neg (by rw [hw]; simp)]
    rw [e]
    go_enter Tryz.func13, Tryz.ntmps13
    go_wp2
    go_ret
    exact ⟨_, rfl, World.ownsRow_nil _ _ _ _, G0⟩
  | true =>
    rw [hw] at c1
    have e : wideV s = be2 65283 := by rw [wideV, if_pos hw]; rfl
    rw [e]
    go_enter Tryz.func13, Tryz.ntmps13
    go_wp2_with fail
    refine (number2 65283 (by omega) _).mono ?_
    rintro e w2 ⟨u, rfl, O2, K2⟩
    go_wp2
    go_ret
    exact ⟨_, rfl, owns_mono O2 hB.out, grown_trans G0 K2⟩

set_option maxRecDepth 100000 in
theorem finner_any (l : Lk) (s : Sp) (a : Option Addr) (ca : Nat) (w : World) (ok : s.ok) : Calls Tryz.prog 15 #[.agg (lkA l), .agg (spA s a ca)] w fun e w' => ∃ v, e = .returned v ∧ Owns w' w.heap.size v (ownV l s) ∧ w.grownBy w' none := by
  have I := ls_boxes w l s a ca
  have HLS : Hid ((Tryz.prog.info? 23).map (·.size) = some (lkA l).size) := size23
  have HSS : Hid ((Tryz.prog.info? 28).map (·.size) = some (spA s a ca).size) := spA_size ok a ca
  have HOK : Hid s.ok := ok
  have hpr := ok.proto
  obtain ⟨R, hR⟩ : ∃ R, ownV l s = R := ⟨_, rfl⟩
  rw [hR]
  have HR : Hid (ownV l s = R) := hR
  clear ok hR
  go_enter Tryz.func15, Tryz.ntmps15
  go_upto_region 1 with fail
  have HZ : Hid (w.heap.size ≤ w.heap.size) := Nat.le_refl _
  generalize (w.alloc (.cells (lkA l) 23)).alloc (.cells (spA s a ca) 28) = w1 at *
  obtain ⟨B, hB⟩ : ∃ B, w.heap.size = B := ⟨_, rfl⟩
  obtain ⟨C, hC⟩ : ∃ C, w.heap.size + 1 = C := ⟨_, rfl⟩
  rw [hC, hB] at I ⊢
  clear hB hC HZ
  have SK := I.2.1
  go_wp2_with (refine wpList_load_row rfl 28 (.tmp 3) rfl C rfl 28 (spA s a ca) (0, 0) _ SK Tryz.underlying28 rfl HSS.out ?_)
  refine (fsays_any s a ca _ HOK.out).mono ?_
  rintro e w2 ⟨rfl, K2⟩
  have I2 := ls_call K2 I
  clear I SK K2
  cases hs : saidB s with
  | false =>
    have e : R = [] := by rw [← HR.out, ownV, if_neg (by rw [hs]; simp)]
    go_wp2
    go_ret
    rw [e]
    exact ⟨_, rfl, World.ownsRow_nil _ _ _ _, I2.2.2⟩
  | true =>
    have HE : Hid (R = fieldV l s.plain s.proto) := by show R = _; rw [← HR.out, ownV, if_pos hs]
    have LK := I2.1
    have SK := I2.2.1
    have c6 := (show SAt w2 C s a ca from ⟨SK, HOK.out⟩).eight.2.2.2.2.2.2.1
    go_wp2_with (first | (refine wpList_load_row rfl 23 (.tmp 2) rfl B rfl 23 (lkA l) (0, 0) _ LK Tryz.underlying23 rfl HLS.out ?_) | (refine wpList_load_row rfl 28 (.tmp 3) rfl C rfl 28 (spA s a ca) (0, 0) _ SK Tryz.underlying28 rfl HSS.out ?_))
    refine (lfield_any l s a ca s.proto _ HOK.out hpr).mono ?_
    rintro e w3 ⟨v, rfl, O3, K3⟩
    go_wp2
    go_ret
    rw [HE.out]
    exact ⟨_, rfl, owns_mono O3 I2.2.2.size, grown_trans I2.2.2 K3⟩

end Go.Proofs.YtnojpepjloceoaaGreat

namespace Go.Proofs.YtnojpepjloceoaaGreat
open Go.RowKit
set_option maxRecDepth 100000

def protoS (l : Lk) (b : List UInt8) (v : Vw) : Except Int Vw := (protoV l b v.pos).bind fun q => .ok { v with proto := q.1, pos := q.2 }
def headS (l : Lk) (b : List UInt8) (v : Vw) : Except Int Vw := if l.mp = 0 ∨ v.proto ≠ 61 then .ok v else (headV l b v.pos).bind fun h => .ok { v with multi := true, beg := h.1, fin := h.2.1, seq := h.2.2.1, pos := h.2.2.2 }
def netS (b : List UInt8) (v : Vw) : Except Int Vw := if v.proto = 33 ∨ v.proto = 87 then ipV v b else .ok v
/-- A step. -/
def stepX (l : Lk) (b : List UInt8) : Nat → Vw → Except Int Vw
  | 0, v => if 65535 < b.length then .error 71 else .ok v
  | 1, v => (plainV l b).bind fun p => .ok { v with pos := v.pos + p }
  | 2, v => protoS l b v
  | 3, v => headS l b v
  | 4, v => if v.beg = true then protoS l b v else .ok v
  | 5, v => netS b v
  | _, v => .ok v
/-- The steps from one on. -/
def chainX (l : Lk) (b : List UInt8) : Nat → Nat → Vw → Except Int Vw
  | 0, _, v => .ok v
  | n + 1, i, v => (stepX l b i v).bind (chainX l b n (i + 1))

theorem chain_err {l : Lk} {b : List UInt8} {n i : Nat} {v : Vw} {e : Int} (h : stepX l b i v = .error e) : chainX l b (n + 1) i v = .error e := by rw [chainX, h]; rfl
theorem chain_ok {l : Lk} {b : List UInt8} {n i : Nat} {v u : Vw} (h : stepX l b i v = .ok u) : chainX l b (n + 1) i v = chainX l b n (i + 1) u := by rw [chainX, h]; rfl

theorem except_cases {α : Type} (x : Except Int α) : (∃ e, x = .error e) ∨ ∃ a, x = .ok a := by
  cases x with
  | error e => exact .inl ⟨e, rfl⟩
  | ok a => exact .inr ⟨a, rfl⟩

theorem bind_err {α β : Type} {x : Except Int α} {f : α → Except Int β} {e : Int} (h : x = .error e) : x.bind f = .error e := by rw [h]; rfl

theorem chain_perr {l : Lk} {b : List UInt8} {n : Nat} {v : Vw} {e : Int} (h : protoV l b v.pos = .error e) : chainX l b (n + 1) 2 v = .error e := chain_err (show protoS l b v = _ from bind_err h)
theorem chain_pok {l : Lk} {b : List UInt8} {n : Nat} {v : Vw} {q : Nat × Nat} (h : protoV l b v.pos = .ok q) : chainX l b (n + 1) 2 v = chainX l b n 3 { v with proto := q.1, pos := q.2 } := chain_ok (show protoS l b v = _ from bind_of h)

theorem chain_h0 {l : Lk} {b : List UInt8} {n : Nat} {v : Vw} (h : l.mp = 0 ∨ v.proto ≠ 61) : chainX l b (n + 1) 3 v = chainX l b n 4 v := chain_ok (show headS l b v = _ by rw [headS, if_pos h])
theorem chain_herr {l : Lk} {b : List UInt8} {n : Nat} {v : Vw} {e : Int} (h : ¬ (l.mp = 0 ∨ v.proto ≠ 61)) (hh : headV l b v.pos = .error e) : chainX l b (n + 1) 3 v = .error e := chain_err (show headS l b v = _ by rw [headS, if_neg h]; exact bind_err hh)
theorem chain_hok {l : Lk} {b : List UInt8} {n : Nat} {v : Vw} {q : Bool × Bool × Nat × Nat} (h : ¬ (l.mp = 0 ∨ v.proto ≠ 61)) (hh : headV l b v.pos = .ok q) : chainX l b (n + 1) 3 v = chainX l b n 4 { v with multi := true, beg := q.1, fin := q.2.1, seq := q.2.2.1, pos := q.2.2.2 } := chain_ok (show headS l b v = _ by rw [headS, if_neg h]; exact bind_of hh)

theorem tail_eq (l : Lk) (b : List UInt8) (v : Vw) (hb : v.multi = false → v.beg = false) (hp : v.multi = true → v.beg = false → v.proto = 61) : chainX l b 2 4 v =
    (if v.multi = true ∧ v.beg = false then .ok v
    else (if v.multi = true then (protoV l b v.pos).bind fun q => .ok { v with proto := q.1, pos := q.2 } else .ok v).bind fun v =>
      if v.proto = 33 ∨ v.proto = 87 then ipV v b else .ok v) := by
  show (if v.beg = true then protoS l b v else .ok v).bind (fun v => (netS b v).bind fun v => .ok v) = _
  have hid : ∀ x : Except Int Vw, (x.bind fun v => .ok v) = x := fun x => by cases x <;> rfl
  have hn : (fun v => (netS b v).bind fun v => .ok v) = netS b := funext fun v => hid _
  rw [hn]
  obtain ⟨pr, mu, be, fi, sq, po, ne, nx, lo⟩ := v
  cases mu with
  | false =>
    cases be with
    | true => exact absurd (hb rfl) (by simp)
    | false => rfl
  | true =>
    cases be with
    | true => rfl
    | false =>
      show netS b _ = .ok _
      have h61 : pr = 61 := hp rfl rfl
      rw [netS, if_neg (by show ¬ (pr = 33 ∨ pr = 87); omega)]

theorem look_chain {l : Lk} (b : List UInt8) (hc : checkF l = 0) : chainX l b 6 0 Vw.zero = lookX l b := by
  have e0 : lookX l b = (pieceV l b).bind fun v => if v.multi = true ∧ v.beg = false then .ok v
    else (if v.multi = true then (protoV l b v.pos).bind fun q => .ok { v with proto := q.1, pos := q.2 } else .ok v).bind fun v =>
      if v.proto = 33 ∨ v.proto = 87 then ipV v b else .ok v := by rw [lookX, if_neg (by rw [hc]; simp)]
  rw [e0]
  by_cases hl : 65535 < b.length
  · have e1 : pieceV l b = .error 71 := by rw [pieceV, if_pos hl]
    rw [bind_err e1, chain_err (by rw [stepX, if_pos hl])]
  · have e1 : pieceV l b = (plainV l b).bind fun p => (protoV l b p).bind fun q =>
      if l.mp = 0 ∨ q.1 ≠ 61 then .ok ⟨q.1, false, false, false, 0, q.2, 0, 0, 0⟩
      else (headV l b q.2).bind fun h => .ok ⟨q.1, true, h.1, h.2.1, h.2.2.1, h.2.2.2, 0, 0, 0⟩ := by rw [pieceV, if_neg hl]
    rw [e1, chain_ok (u := Vw.zero) (by rw [stepX, if_neg hl])]
    rcases except_cases (plainV l b) with ⟨e, hp⟩ | ⟨p, hp⟩
    · rw [bind_err (bind_err hp), chain_err (i := 1) (show (plainV l b).bind _ = _ from bind_err hp)]
    · rw [bind_of hp, chain_ok (u := { Vw.zero with pos := p }) (by
        show (plainV l b).bind (fun p => Except.ok { Vw.zero with pos := Vw.zero.pos + p }) = _
        rw [bind_of hp]
        show Except.ok { Vw.zero with pos := 0 + p } = _
        rw [Nat.zero_add])]
      rcases except_cases (protoV l b p) with ⟨e, hq⟩ | ⟨q, hq⟩
      · rw [bind_err (bind_err hq), chain_perr hq]
      · rw [bind_of hq, chain_pok hq]
        by_cases hm : l.mp = 0 ∨ q.1 ≠ 61
        · rw [if_pos hm, chain_h0 hm]
          exact tail_eq l b _ (fun _ => rfl) (fun h => by cases h)
        · rw [if_neg hm]
          rcases except_cases (headV l b q.2) with ⟨e, hh⟩ | ⟨h, hh⟩
          · rw [bind_err (bind_err hh), chain_herr hm hh]
          · rw [bind_of hh, chain_hok hm hh]
            have h61 : q.1 = 61 := Classical.byContradiction fun e => hm (.inr e)
            exact tail_eq l b _ (fun h => by cases h) (fun _ _ => h61)

end Go.Proofs.YtnojpepjloceoaaGreat

namespace Go.Proofs.YtnojpepjloceoaaGreat
open Go.RowKit
set_option maxRecDepth 100000

/-- A reader: what it has found, the link, the frame. -/
def wkA (v : Vw) (l : Lk) (s : Value) : Array Value := #[.int .u32 (v.proto : Int), .bool v.multi, .bool v.beg, .bool v.fin, .int .u32 (v.seq : Int), .int .i64 (v.pos : Int), .int .i64 (v.net : Int), .int .i64 (v.next : Int), .int .i64 (v.load : Int), .bool l.acfc, .bool l.pfc, .int .i64 l.mp, s]
def WAt (w : World) (g : Nat) (v : Vw) (l : Lk) (s : Value) : Prop := VAt w g 104 (wkA v l s)
theorem WAt.c {w : World} {g : Nat} {v : Vw} {l : Lk} {s : Value} (h : WAt w g v l s) (i : Nat) : w.cell? ⟨g, i, none⟩ = (wkA v l s)[i]? := VAt.cell h i
theorem WAt.kept {w w' : World} {g : Nat} {v : Vw} {l : Lk} {s : Value} (h : WAt w g v l s) (G : w.grownBy w' none) : WAt w' g v l s := VAt.kept h G
theorem WAt.lt {w : World} {g : Nat} {v : Vw} {l : Lk} {s : Value} (h : WAt w g v l s) : g < w.heap.size := VAt.lt h

/-- A panic with an error's number. -/
def PanE (e : Int) : List PanicEntry := [{ v := .iface 29 (.int .i64 e), recovered := false }]

theorem getV_ok {b : List UInt8} {p k : Nat} (hk : k = 1 ∨ k = 2 ∨ k = 4) (h : p + k ≤ b.length) : getV b (p : Int) (k : Int) = (numAt b p k : Int) ∧ okB b.length (p : Int) (k : Int) = true := by
  have e : okB b.length (p : Int) (k : Int) = true := by unfold okB; exact decide_eq_true ⟨by omega, by omega, by omega⟩
  refine ⟨?_, e⟩
  unfold getV
  rw [if_pos e]
  simp

theorem getV_no {b : List UInt8} {p k : Nat} (h : ¬ p + k ≤ b.length) : getV b (p : Int) (k : Int) = 0 ∧ okB b.length (p : Int) (k : Int) = false := by
  have e : okB b.length (p : Int) (k : Int) = false := by unfold okB; rw [decide_eq_false_iff_not]; omega
  refine ⟨?_, e⟩
  unfold getV
  rw [if_neg (by rw [e]; simp)]

set_option maxHeartbeats 1000000 in
theorem read_ok (g : Nat) (v : Vw) (l : Lk) (a : Option Addr) (ca : Nat) (b : List UInt8) (k s : Nat) (w : World) (h : WAt w g v l (.slice a b.length ca)) (ha : Cells w a b) (hn : b.length ≤ 140737488355328) (hs : s = 1 ∨ s = 2 ∨ s = 4) (hk : v.pos + k + s ≤ b.length) :
    Calls Tryz.prog 130 #[.pointer (some ⟨g, 0, none⟩), .int .i64 (k : Int), .int .i64 (s : Int)] w fun e w' => e = .returned (.int .u32 (numAt b (v.pos + k) s : Int)) ∧ ∃ n, w' = w.drewN n := by
  obtain ⟨e1, e2⟩ := getV_ok (b := b) (p := v.pos + k) hs hk
  have c5 : w.cell? ⟨g, 5, none⟩ = some (.int .i64 (v.pos : Int)) := h.c 5
  have c12 : w.cell? ⟨g, 12, none⟩ = some (.slice a b.length ca) := h.c 12
  have f5 := VAt.free h 5
  have HQ : Hid (∀ n, Calls Tryz.prog 103 #[.slice a b.length ca, .int .i64 ((v.pos + k : Nat) : Int), .int .i64 (s : Int)] (w.drewN n) fun e w' => e = .returned (.tuple #[.int .u32 (numAt b (v.pos + k) s : Int), .bool true]) ∧ w' = w.drewN n) := fun n => by
    have := get_any a ca b ((v.pos + k : Nat) : Int) (s : Int) (w.drewN n) (ha.keptNone (grown_drewN _ _ none)) hn
    rw [e1, e2] at this
    exact this.mono fun _ _ ⟨h, k⟩ => ⟨h, k.symm⟩
  have hw : IntKind.i64.wrap ((v.pos : Int) + (k : Int)) = ((v.pos + k : Nat) : Int) := by rw [IntKind.wrap_i64]; omega
  generalize numAt b (v.pos + k) s = r at *
  generalize hp : v.pos + k = p at *
  clear e1 e2 h ha hs hk
  go_enter Tryz.func130, Tryz.ntmps130
  go_wp2
  go_quiet ((go_at_call 103; first | exact Calls.quiet_of_same (HQ.out _) | exact Calls.quiet_of_same (HQ.out 0)))
  go_wp2
  go_ret
  exact ⟨rfl, _, rfl⟩

set_option maxHeartbeats 1000000 in
theorem read_no (g : Nat) (v : Vw) (l : Lk) (a : Option Addr) (ca : Nat) (b : List UInt8) (k s : Nat) (w : World) (h : WAt w g v l (.slice a b.length ca)) (ha : Cells w a b) (hn : b.length ≤ 140737488355328) (hp2 : v.pos ≤ b.length) (hk2 : k ≤ 100) (hk : ¬ v.pos + k + s ≤ b.length) :
    Calls Tryz.prog 130 #[.pointer (some ⟨g, 0, none⟩), .int .i64 (k : Int), .int .i64 (s : Int)] w fun e w' => e = .panicked (PanE 72) ∧ ∃ n, w' = w.drewN n := by
  obtain ⟨e1, e2⟩ := getV_no (b := b) (p := v.pos + k) hk
  have c5 : w.cell? ⟨g, 5, none⟩ = some (.int .i64 (v.pos : Int)) := h.c 5
  have c12 : w.cell? ⟨g, 12, none⟩ = some (.slice a b.length ca) := h.c 12
  have f5 := VAt.free h 5
  have HQ : Hid (∀ n, Calls Tryz.prog 103 #[.slice a b.length ca, .int .i64 ((v.pos + k : Nat) : Int), .int .i64 (s : Int)] (w.drewN n) fun e w' => e = .returned (.tuple #[.int .u32 0, .bool false]) ∧ w' = w.drewN n) := fun n => by
    have := get_any a ca b ((v.pos + k : Nat) : Int) (s : Int) (w.drewN n) (ha.keptNone (grown_drewN _ _ none)) hn
    rw [e1, e2] at this
    exact this.mono fun _ _ ⟨h, k⟩ => ⟨h, k.symm⟩
  have hw : IntKind.i64.wrap ((v.pos : Int) + (k : Int)) = ((v.pos + k : Nat) : Int) := by rw [IntKind.wrap_i64]; omega
  generalize hp : v.pos + k = p at *
  clear e1 e2 h ha hk
  go_enter Tryz.func130, Tryz.ntmps130
  go_wp2
  go_quiet ((go_at_call 103; first | exact Calls.quiet_of_same (HQ.out _) | exact Calls.quiet_of_same (HQ.out 0)))
  go_wp2
  exact ⟨rfl, rfl, _, rfl⟩

theorem WAt.setPos {w : World} {g : Nat} {v : Vw} {l : Lk} {s : Value} (h : WAt w g v l s) (p : Nat) : WAt (w.setCell ⟨g, 5, none⟩ (.int .i64 (p : Int))) g { v with pos := p } l s := VAt.set h 5 _
theorem WAt.setProto {w : World} {g : Nat} {v : Vw} {l : Lk} {s : Value} (h : WAt w g v l s) (p : Nat) : WAt (w.setCell ⟨g, 0, none⟩ (.int .u32 (p : Int))) g { v with proto := p } l s := VAt.set h 0 _

set_option maxHeartbeats 1000000 in
theorem take_ok (g : Nat) (v : Vw) (l : Lk) (a : Option Addr) (ca : Nat) (b : List UInt8) (s : Nat) (w : World) (h : WAt w g v l (.slice a b.length ca)) (ha : Cells w a b) (hn : b.length ≤ 140737488355328) (hs : s = 1 ∨ s = 2 ∨ s = 4) (hk : v.pos + s ≤ b.length) :
    Calls Tryz.prog 104 #[.pointer (some ⟨g, 0, none⟩), .int .i64 (s : Int)] w fun e w' => e = .returned (.int .u32 (numAt b v.pos s : Int)) ∧ ∃ n, w' = (w.drewN n).setCell ⟨g, 5, none⟩ (.int .i64 ((v.pos + s : Nat) : Int)) := by
  have CR := read_ok g v l a ca b 0 s w h ha hn hs (by omega)
  rw [Nat.add_zero] at CR
  have HC : Hid (∀ n, (w.drewN n).cell? ⟨g, 5, none⟩ = some (.int .i64 (v.pos : Int)) ∧ (w.drewN n).frozen? ⟨g, 5, none⟩ = false) := fun n => ⟨(h.kept (grown_drewN _ _ none)).c 5, VAt.free (h.kept (grown_drewN _ _ none)) 5⟩
  have hw : IntKind.i64.wrap ((v.pos : Int) + (s : Int)) = ((v.pos + s : Nat) : Int) := by rw [IntKind.wrap_i64]; omega
  generalize numAt b v.pos s = r at *
  generalize hp : v.pos + s = p at *
  clear h ha hs hk
  go_enter Tryz.func104, Tryz.ntmps104
  go_wp2_with fail
  refine CR.mono ?_
  rintro e w1 ⟨rfl, n, rfl⟩
  obtain ⟨c5, f5⟩ := HC.out n
  clear CR
  go_wp2
  go_ret
  exact ⟨rfl, _, rfl⟩

set_option maxHeartbeats 1000000 in
theorem take_no (g : Nat) (v : Vw) (l : Lk) (a : Option Addr) (ca : Nat) (b : List UInt8) (s : Nat) (w : World) (h : WAt w g v l (.slice a b.length ca)) (ha : Cells w a b) (hn : b.length ≤ 140737488355328) (hp2 : v.pos ≤ b.length) (hk : ¬ v.pos + s ≤ b.length) :
    Calls Tryz.prog 104 #[.pointer (some ⟨g, 0, none⟩), .int .i64 (s : Int)] w fun e w' => e = .panicked (PanE 72) ∧ ∃ n, w' = w.drewN n := by
  have CR := read_no g v l a ca b 0 s w h ha hn hp2 (by omega) (by omega)
  clear h ha hk
  go_enter Tryz.func104, Tryz.ntmps104
  go_wp2_with fail
  refine CR.mono ?_
  rintro e w1 ⟨rfl, n, rfl⟩
  clear CR
  go_wp2
  exact ⟨rfl, rfl, _, rfl⟩

set_option maxHeartbeats 1000000 in
theorem need_ok (g : Nat) (v : Vw) (l : Lk) (a : Option Addr) (ca n k : Nat) (w : World) (h : WAt w g v l (.slice a n ca)) (hn : n ≤ 140737488355328) (hk : v.pos + k ≤ n) :
    Calls Tryz.prog 131 #[.pointer (some ⟨g, 0, none⟩), .int .i64 (k : Int)] w fun e w' => e = .returned (.tuple #[]) ∧ ∃ n, w' = w.drewN n := by
  have c5 : w.cell? ⟨g, 5, none⟩ = some (.int .i64 (v.pos : Int)) := h.c 5
  have c12 : w.cell? ⟨g, 12, none⟩ = some (.slice a n ca) := h.c 12
  have hd : ¬ (n : Int) - (v.pos : Int) < (k : Int) := by omega
  have hw : IntKind.i64.wrap ((n : Int) - (v.pos : Int)) = (n : Int) - (v.pos : Int) := by rw [IntKind.wrap_i64]; omega
  generalize v.pos = p at *
  clear h hk
  go_enter Tryz.func131, Tryz.ntmps131
  go_wp2
  go_quiet (fail)
  go_wp2
  go_end0
  exact ⟨rfl, _, rfl⟩

set_option maxHeartbeats 1000000 in
theorem need_no (g : Nat) (v : Vw) (l : Lk) (a : Option Addr) (ca n k : Nat) (w : World) (h : WAt w g v l (.slice a n ca)) (hn : n ≤ 140737488355328) (hp : v.pos ≤ n) (hk : ¬ v.pos + k ≤ n) :
    Calls Tryz.prog 131 #[.pointer (some ⟨g, 0, none⟩), .int .i64 (k : Int)] w fun e w' => e = .panicked (PanE 72) ∧ ∃ n, w' = w.drewN n := by
  have c5 : w.cell? ⟨g, 5, none⟩ = some (.int .i64 (v.pos : Int)) := h.c 5
  have c12 : w.cell? ⟨g, 12, none⟩ = some (.slice a n ca) := h.c 12
  have hd : (n : Int) - (v.pos : Int) < (k : Int) := by omega
  have hw : IntKind.i64.wrap ((n : Int) - (v.pos : Int)) = (n : Int) - (v.pos : Int) := by rw [IntKind.wrap_i64]; omega
  generalize v.pos = p at *
  clear h hk
  go_enter Tryz.func131, Tryz.ntmps131
  go_wp2
  go_quiet (fail)
  go_wp2
  exact ⟨rfl, rfl, _, rfl⟩

theorem numAt_one (b : List UInt8) (p : Nat) : numAt b p 1 = bg b p := by
  show numAt b p 0 * 256 + (b.getD (p + 0) 0).toNat = _
  rw [Nat.add_zero]
  show 0 * 256 + _ = _
  rw [Nat.zero_mul, Nat.zero_add]
  rfl
theorem numAt_two (b : List UInt8) (p : Nat) : numAt b p 2 = bg b p * 256 + bg b (p + 1) := by
  show numAt b p 1 * 256 + (b.getD (p + 1) 0).toNat = _
  rw [numAt_one]
  rfl

set_option maxHeartbeats 1000000 in
theorem halves_ok (g : Nat) (v : Vw) (l : Lk) (a : Option Addr) (ca : Nat) (b : List UInt8) (w : World) (h : WAt w g v l (.slice a b.length ca)) (ha : Cells w a b) (hn : b.length ≤ 140737488355328) (hk : v.pos + 1 ≤ b.length) :
    Calls Tryz.prog 132 #[.pointer (some ⟨g, 0, none⟩)] w fun e w' => e = .returned (.tuple #[.int .i64 ((bg b v.pos / 16 : Nat) : Int), .int .i64 ((bg b v.pos % 16 : Nat) : Int)]) ∧ ∃ n, w' = w.drewN n := by
  have CR := read_ok g v l a ca b 0 1 w h ha hn (.inl rfl) (by omega)
  rw [Nat.add_zero, numAt_one] at CR
  have hx := bg_lt b v.pos
  generalize bg b v.pos = x at *
  have hw : IntKind.i64.wrap (x : Int) = (x : Int) := by rw [IntKind.wrap_i64]; omega
  have hlo : bits BinOp.and IntKind.i64 (x : Int) 15 = ((x % 16 : Nat) : Int) := by
    have : ∀ y : Fin 256, bits BinOp.and IntKind.i64 (y.val : Int) 15 = ((y.val % 16 : Nat) : Int) := by decide
    exact this ⟨x, hx⟩
  clear h ha hk
  go_enter Tryz.func132, Tryz.ntmps132
  go_wp2_with fail
  refine CR.mono ?_
  rintro e w1 ⟨rfl, n, rfl⟩
  clear CR
  go_wp2
  go_ret2
  exact ⟨rfl, _, rfl⟩

end Go.Proofs.YtnojpepjloceoaaGreat

namespace Go.Proofs.YtnojpepjloceoaaGreat
open Go.RowKit
set_option maxRecDepth 100000

/-- What a step leaves. -/
def StepP (w : World) (g : Nat) (l : Lk) (s : Value) (x : Except Int Vw) (e : Ending) (w' : World) : Prop :=
  w.grownBy w' (some g) ∧ match x with
    | .ok v => e = .returned (.tuple #[]) ∧ WAt w' g v l s
    | .error er => e = .panicked (PanE er)

/-- A frame's bytes, apart from the reader. -/
def FrA (w : World) (g : Nat) (a : Option Addr) (b : List UInt8) : Prop := Cells w a b ∧ ∀ x, a = some x → b ≠ [] → x.block ≠ g
theorem FrA.kept {w w' : World} {g : Nat} {a : Option Addr} {b : List UInt8} (h : FrA w g a b) (G : w.grownBy w' (some g)) : FrA w' g a b :=
  ⟨h.1.kept G (fun ad e hb => by have := h.2 ad e hb; simpa using this), h.2⟩

theorem grown_set {w : World} {g i : Nat} {v : Value} (n : Nat) : w.grownBy ((w.drewN n).setCell ⟨g, i, none⟩ v) (some g) :=
  grown_setCell (grown_drewN w n (some g)) _ _ (.inl rfl)

theorem take_ok' (g : Nat) (v : Vw) (l : Lk) (a : Option Addr) (ca : Nat) (b : List UInt8) (s : Nat) (w : World) (h : WAt w g v l (.slice a b.length ca)) (ha : FrA w g a b) (hn : b.length ≤ 140737488355328) (hs : s = 1 ∨ s = 2 ∨ s = 4) (hk : v.pos + s ≤ b.length) :
    Calls Tryz.prog 104 #[.pointer (some ⟨g, 0, none⟩), .int .i64 (s : Int)] w fun e w' => e = .returned (.int .u32 (numAt b v.pos s : Int)) ∧ WAt w' g { v with pos := v.pos + s } l (.slice a b.length ca) ∧ w.grownBy w' (some g) := by
  refine (take_ok g v l a ca b s w h ha.1 hn hs hk).mono ?_
  rintro e w' ⟨rfl, n, rfl⟩
  exact ⟨rfl, (h.kept (grown_drewN _ n none)).setPos _, grown_set n⟩

set_option maxHeartbeats 1000000 in
theorem length_any (g : Nat) (v : Vw) (l : Lk) (a : Option Addr) (ca n : Nat) (w : World) (h : WAt w g v l (.slice a n ca)) :
    Calls Tryz.prog 60 #[.pointer (some ⟨g, 0, none⟩)] w fun e w' => StepP w g l (.slice a n ca) (if 65535 < n then .error 71 else .ok v) e w' := by
  have c12 : w.cell? ⟨g, 12, none⟩ = some (.slice a n ca) := h.c 12
  have HW : Hid (WAt w g v l (.slice a n ca)) := h
  clear h
  by_cases hl : 65535 < n
  · have hl' : (65535 : Int) < (n : Int) := by omega
    rw [if_pos hl]
    clear hl
    go_enter Tryz.func60, Tryz.ntmps60
    go_wp2
    exact ⟨rfl, World.grownBy.refl _ _, rfl⟩
  · have hl' : ¬ (65535 : Int) < (n : Int) := by omega
    rw [if_neg hl]
    clear hl
    go_enter Tryz.func60, Tryz.ntmps60
    go_wp2
    go_end0
    exact ⟨World.grownBy.refl _ _, rfl, HW.out⟩

set_option maxHeartbeats 1000000 in
theorem address_any (g : Nat) (v : Vw) (l : Lk) (a : Option Addr) (ca : Nat) (b : List UInt8) (w : World) (h : WAt w g v l (.slice a b.length ca)) (ha : FrA w g a b) (hn : b.length ≤ 140737488355328) (hv : v.pos ≤ 1000) :
    Calls Tryz.prog 61 #[.pointer (some ⟨g, 0, none⟩)] w fun e w' => StepP w g l (.slice a b.length ca) ((plainV l b).bind fun p => .ok { v with pos := v.pos + p }) e w' := by
  have c12 : w.cell? ⟨g, 12, none⟩ = some (.slice a b.length ca) := h.c 12
  have c9 : w.cell? ⟨g, 9, none⟩ = some (.bool l.acfc) := h.c 9
  have c5 : w.cell? ⟨g, 5, none⟩ = some (.int .i64 (v.pos : Int)) := h.c 5
  have f5 := VAt.free h 5
  have HW : Hid (WAt w g v l (.slice a b.length ca)) := h
  have CG := get_any a ca b 0 2 w ha.1 hn
  have hp : plainV l b = if 2 ≤ b.length ∧ bg b 0 = 255 ∧ bg b 1 = 3 then .ok 2 else if l.acfc = true then .ok 0 else if b.length < 2 then .error 72 else .error 73 := rfl
  rw [hp]
  have b0 := bg_lt b 0
  have b1 := bg_lt b 1
  clear h ha hp
  by_cases h2 : 2 ≤ b.length
  · obtain ⟨e1, e2⟩ := getV_ok (b := b) (p := 0) (k := 2) (by omega) (by omega)
    rw [show ((0 : Nat) : Int) = 0 from rfl, show ((2 : Nat) : Int) = 2 from rfl] at e1 e2
    rw [e1, e2, numAt_two] at CG
    by_cases hff : bg b 0 = 255 ∧ bg b 1 = 3
    · have hf : ((bg b 0 * 256 + bg b (0 + 1) : Nat) : Int) = 65283 := by
        rw [Nat.zero_add]; omega
      rw [hf] at CG
      rw [if_pos ⟨h2, hff⟩]
      clear hff b0 b1 e1 e2 hf h2
      have hw : IntKind.i64.wrap ((v.pos : Int) + 2) = ((v.pos + 2 : Nat) : Int) := by rw [IntKind.wrap_i64]; omega
      go_enter Tryz.func61, Tryz.ntmps61
      go_wp2_with fail
      refine CG.mono ?_
      rintro e w1 ⟨rfl, rfl⟩
      clear CG
      go_wp2
      go_end0
      exact ⟨grown_set 0, rfl, HW.out.setPos _⟩
    · have hf : (((bg b 0 * 256 + bg b (0 + 1) : Nat) : Int) == 65283) = false := by
        rw [Nat.zero_add, beq_eq_false_iff_ne]; omega
      rw [if_neg (fun e => hff e.2), if_neg (show ¬ b.length < 2 by omega)]
      generalize bg b 0 * 256 + bg b (0 + 1) = fld at *
      clear hff b0 b1 e1 e2 h2
      cases hac : l.acfc with
      | true =>
        rw [hac] at c9
        rw [if_pos rfl]
        go_enter Tryz.func61, Tryz.ntmps61
        go_wp2_with fail
        refine CG.mono ?_
        rintro e w1 ⟨rfl, rfl⟩
        clear CG
        go_wp2
        go_end0
        exact ⟨World.grownBy.refl _ _, rfl, HW.out⟩
      | false =>
        rw [hac] at c9
        rw [if_neg (by simp)]
        go_enter Tryz.func61, Tryz.ntmps61
        go_wp2_with fail
        refine CG.mono ?_
        rintro e w1 ⟨rfl, rfl⟩
        clear CG
        go_wp2
        exact ⟨rfl, World.grownBy.refl _ _, rfl⟩
  · obtain ⟨e1, e2⟩ := getV_no (b := b) (p := 0) (k := 2) (by omega)
    rw [show ((0 : Nat) : Int) = 0 from rfl, show ((2 : Nat) : Int) = 2 from rfl] at e1 e2
    rw [e1, e2] at CG
    rw [if_neg (fun e => h2 e.1), if_pos (show b.length < 2 by omega)]
    clear b0 b1 e1 e2 h2
    cases hac : l.acfc with
    | true =>
      rw [hac] at c9
      rw [if_pos rfl]
      go_enter Tryz.func61, Tryz.ntmps61
      go_wp2_with fail
      refine CG.mono ?_
      rintro e w1 ⟨rfl, rfl⟩
      clear CG
      go_wp2
      go_end0
      exact ⟨World.grownBy.refl _ _, rfl, HW.out⟩
    | false =>
      rw [hac] at c9
      rw [if_neg (by simp)]
      go_enter Tryz.func61, Tryz.ntmps61
      go_wp2_with fail
      refine CG.mono ?_
      rintro e w1 ⟨rfl, rfl⟩
      clear CG
      go_wp2
      exact ⟨rfl, World.grownBy.refl _ _, rfl⟩

end Go.Proofs.YtnojpepjloceoaaGreat
