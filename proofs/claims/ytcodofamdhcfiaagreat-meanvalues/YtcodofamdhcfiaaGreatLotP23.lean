import Derived.Test.YtcodofamdhcfiaaGreatMnK
import Derived.Test.YtcodofamdhcfiaaGreatLotP22
import Derived.Test.YtcodofamdhcfiaaGreatLotP19
import Derived.Test.YtcodofamdhcfiaaGreatLotP4
import Derived.Test.YtcodofamdhcfiaaGreatLotP5
import Derived.Test.YtcodofamdhcfiaaGreatLotP9
import Derived.WalkLawsBesides
import Derived.Deep.RegionHeld3
namespace Go.Proofs.YtcodofamdhcfiaaGreat
open Go.RowKit
set_option maxRecDepth 100000
theorem trok_of {x : Ng} {ps : List Pt} (hk : 10 ≤ x.kind ∧ x.kind ≤ 16) (hf : faultG x ps = 0) : TrOk x := by
 obtain ⟨h1, -, -, h4⟩ := mfault_zero hf
 have hm : mayG x = true := by
  unfold formG at h1
  exact (Bool.and_eq_true_iff.1 h1).2
 have ho : x.kind = 14 ∨ x.kind = 15 → x.of = 2 ∨ x.of = 3 := fun h => by
  unfold mayG at hm
  rw [if_neg (by omega), if_neg (by omega), if_neg (by omega), if_neg (by omega), if_neg (by omega), if_neg (by omega), if_pos h] at hm
  unfold hostG at hm
  have h5 := (Bool.and_eq_true_iff.1 (Bool.and_eq_true_iff.1 hm).1).1
  unfold inG at h5
  have h6 := Bool.and_eq_true_iff.1 h5
  have := of_decide_eq_true h6.1
  have := of_decide_eq_true h6.2
  omega
 refine ⟨hk, ho, fun h => ?_⟩
 unfold rangeE at h4
 rw [if_neg (by omega), if_neg (by omega), if_neg (by omega), if_neg (by omega), if_pos h, maddr_len] at h4
 split at h4
 ·exact absurd h4 (by decide)
 ·rename_i hb
  exact Decidable.not_not.1 hb
theorem op_of {x : Ng} {ps : List Pt} (hk : x.kind = 4) (hf : faultG x ps = 0) : 1 ≤ x.op ∧ x.op ≤ 10 := by
 obtain ⟨h1, -, -, -⟩ := mfault_zero hf
 unfold formG at h1
 have hm := (Bool.and_eq_true_iff.1 h1).2
 unfold mayG at hm
 rw [if_neg (by omega), if_pos hk] at hm
 unfold inG at hm
 have h6 := Bool.and_eq_true_iff.1 hm
 exact ⟨of_decide_eq_true h6.1, of_decide_eq_true h6.2⟩
theorem last_one {α : Type} {l : List α} (h : 1 ≤ l.length) : ∃ m x, l = m ++ [x] :=
 ⟨l.dropLast, l.getLast (by intro e; rw [e] at h; simp at h), (List.dropLast_concat_getLast _).symm⟩
theorem last_two {α : Type} {l : List α} (h : 2 ≤ l.length) : ∃ m x y, l = m ++ [x, y] := by
 obtain ⟨m, y, rfl⟩ := last_one (l := l) (by omega)
 obtain ⟨m', x, rfl⟩ := last_one (l := m) (by simp at h; omega)
 exact ⟨m', x, y, by simp⟩
theorem StM.val {ps : List Pt} {qs : List Pm} (h : StM ps qs) : ∀ q ∈ qs, q.val ≤ 4294967295 := by
 induction h with
 | nil => intro q hq; cases hq
 | cons h _ ih =>
  intro q hq
  rcases List.mem_cons.1 hq with rfl | hq
  ·exact h.val
  ·exact ih q hq
theorem read_any14 {w0 w : World} {s : Sg} {a : Option Addr} {ca g : Nat} {v : Value} {st : List Pm} {x : Ng} {ps ps' : List Pt} (R : RS w0 w g s a ca v st) (hc : Cells w0 a s.b) (hk : MSgOk s) (hcap : s.b.length ≤ ca) (hl : st.length ≤ 2999) (hst : StM ps st) (hs : stepG x ps = .ok ps') :
  Calls Tryz.prog 64 #[.pointer (some ⟨g, 0, none⟩), .agg x.cells.toArray] w fun e w' => e = .returned (.tuple #[]) ∧ Lft w0 w g s a ca v (stpM s st x) w' := by
 obtain ⟨n, ha, hle, hf, -⟩ := mstep_inv hs
 have hln := hst.len
 have hv := hst.val
 rcases arG_cases ha with ⟨h1, hkd⟩ | ⟨h1, hkd⟩ | ⟨h1, hkd⟩
 ·subst h1
  obtain ⟨m, q, rfl⟩ := last_one (l := st) (by omega)
  have hq := hv q (by simp)
  have hm : m.length ≤ 2999 := by simp at hl; omega
  rw [stpM_one s m q x ha]
  rcases hkd with h | h | h
  ·rw [show overM s x [q] = loadM s x q by simp [overM, h]]; exact read3 q R hc hk hcap hm ⟨h, hq⟩
  ·rw [show overM s x [q] = minusM q by simp [overM, h]]; exact read5 q R hc hk hcap hm ⟨h, hq⟩
  ·rw [show overM s x [q] = ⟨notM q.how, 0⟩ by simp [overM, h]]; exact read9 q R hc hk hcap hm h
 ·subst h1
  obtain ⟨m, p, q, rfl⟩ := last_two (l := st) (by omega)
  have hp := hv p (by simp)
  have hq := hv q (by simp)
  have hm : m.length ≤ 2999 := by simp at hl; omega
  rw [stpM_two s m p q x ha]
  rcases hkd with h | h | h | h
  ·rw [show overM s x [p, q] = arithM x.op p q by simp [overM, h]]; exact read4 p q R hc hk hcap hm ⟨h, (op_of h hf).1, (op_of h hf).2, hp, hq⟩
  ·rw [show overM s x [p, q] = ⟨relM x.op p q, 0⟩ by simp [overM, h]]; exact read6 p q R hc hk hcap hm h
  ·rw [show overM s x [p, q] = ⟨andM p.how q.how, 0⟩ by simp [overM, h]]; exact read7 p q R hc hk hcap hm h
  ·rw [show overM s x [p, q] = ⟨orM p.how q.how, 0⟩ by simp [overM, h]]; exact read8 p q R hc hk hcap hm h
 ·subst h1
  rw [stpM_zero s st x ha]
  by_cases k1 : x.kind = 1
  ·rw [show overM s x [] = ⟨1, x.n⟩ by simp [overM, k1]]; exact read1 R hc hk hcap hl k1
  ·by_cases k2 : x.kind = 2
   ·rw [show overM s x [] = ⟨1, s.b.length⟩ by simp [overM, k2]]; exact read2 R hc hk hcap hl k2
   ·have h10 : 10 ≤ x.kind ∧ x.kind ≤ 16 := by omega
    rw [show overM s x [] = ⟨truthM s x, 0⟩ by
     unfold overM
     rw [if_neg k1, if_neg k2, if_neg (by omega), if_neg (by omega), if_neg (by omega), if_neg (by omega), if_neg (by omega), if_neg (by omega), if_neg (by omega)]]
    exact read10 R hc hk hcap hl (trok_of h10 hf)
theorem walk_take {t : List Ng} {p : Pt} (h : walkG [] 0 t = .ok [p]) {k : Nat} (hk : k < t.length) : ∃ ps ps', walkG [] 0 (t.take k) = .ok ps ∧ stepG t[k] ps = .ok ps' := by
 have e : t = t.take k ++ t[k] :: t.drop (k + 1) := by rw [← List.drop_eq_getElem_cons hk, List.take_append_drop]
 rw [e, walkG_app] at h
 cases h1 : walkG [] 0 (t.take k) with
 | error x => rw [h1] at h; cases h
 | ok ps =>
  rw [h1] at h
  simp only [walkG] at h
  cases h2 : stepG t[k] ps with
  | error x => rw [h2] at h; cases h
  | ok ps' => exact ⟨ps, ps', rfl, h2⟩
theorem eval_next (s : Sg) (t : List Ng) {k : Nat} (hk : k < t.length) : evalM s [] (t.take (k + 1)) = stpM s (evalM s [] (t.take k)) t[k] := by
 rw [List.take_succ_eq_append_getElem hk, eval_app]
 rfl
theorem build_rd (v : Value) (W : World) : (Instr.build 105 #[(0, .iface 71 v)]).run Tryz.prog W = .ok (.agg #[.iface 71 v, .slice none 0 0]) W := by kernel_rfl
set_option maxHeartbeats 4000000 in
theorem reckoned_any14 (s : Sg) (a : Option Addr) (ca : Nat) (ao : Option Addr) (cap : Nat) (t : List Ng) (p : Pt) (w : World) (C : CV w ao (flatG t)) (hw : walkG [] 0 t = .ok [p]) (ht : t.length ≤ 3000) (hn : ∀ x ∈ t, x.n ≤ 4294967295) (hc : Cells w a s.b) (hk : MSgOk s) (hcap : s.b.length ≤ ca) :
  Calls Tryz.prog 38 #[.slice ao t.length cap, tellA s a ca] w fun e w' => e = .returned (pmA ((evalM s [] t).getD 0 pm0)) ∧ w.grownBy w' none := by
 obtain ⟨q, hq, -⟩ := eval_one hk.len hn hw
 rw [hq, show [q].getD 0 pm0 = q from rfl]
 have T1 := QB.alloc w pm0
 have K1 := World.grownBy_alloc w (.cells (pmC pm0) 55) none
 have e1 : (w.alloc (.cells (pmC pm0) 55)).heap.size = w.heap.size + 1 := by simp
 have K2 := World.grownBy_alloc (w.alloc (.cells (pmC pm0) 55)) (.cells #[tellA s a ca, .slice none 0 0] 105) none
 have D2 : RD ((w.alloc (.cells (pmC pm0) 55)).alloc (.cells #[tellA s a ca, .slice none 0 0] 105)) (w.heap.size + 1) s a ca (.slice none 0 0) := by
  have := VAt.alloc (w.alloc (.cells (pmC pm0) 55)) 105 #[tellA s a ca, .slice none 0 0]
  rw [e1] at this
  exact this
 have T2 := T1.kept K2
 have R2 : RS w ((w.alloc (.cells (pmC pm0) 55)).alloc (.cells #[tellA s a ca, .slice none 0 0] 105)) (w.heap.size + 1) s a ca (.slice none 0 0) [] := ⟨grown_trans K1 K2, D2, Nat.le_succ _, World.ownsRow_nil _ _ _ _, Nat.zero_le _⟩
 have HNT : Hid (¬ ft (w.heap.size + 1) (.slice none 0 0) w.heap.size) := by
  rintro (h | h)
  ·omega
  ·cases h
 have HBR := build_rd (.agg (viewC s a ca))
 have HST : Hid (∀ k, (hk : k < t.length) → ∃ ps ps', StM ps (evalM s [] (t.take k)) ∧ stepG t[k] ps = .ok ps' ∧ (evalM s [] (t.take k)).length ≤ 2999) := fun k hk2 => by
  obtain ⟨ps, ps', h1, h2⟩ := walk_take hw hk2
  have h3 := eval_st hk.len (t.take k) [] ps [] 0 (fun x hx => hn x (List.mem_of_mem_take hx)) h1 .nil
  refine ⟨ps, ps', h3, h2, ?_⟩
  have h4 := walkG_len (t.take k) [] ps 0 h1
  have h5 := h3.len
  simp only [List.length_nil, List.length_take] at h4
  omega
 have HQ : Hid (evalM s [] t = [q]) := hq
 have HC : Hid (CV w ao (flatG t)) := C
 have HB : Hid (Cells w a s.b ∧ MSgOk s ∧ s.b.length ≤ ca) := ⟨hc, hk, hcap⟩
 have HPS := mpart_size
 clear hq hn hw hcap hk hc K1 K2 D2 T1 e1 C
 obtain ⟨VC, hVC⟩ : ∃ VC, viewC s a ca = VC := ⟨_, rfl⟩
 have HVC : Hid (viewC s a ca = VC) := hVC
 simp only [tellA] at R2 T2 ⊢
 rw [hVC] at HBR R2 T2 ⊢
 clear hVC
 go_enter Tryz.func38, Tryz.ntmps38
 go_upto_region 2 with fail
 rw [show (#[.int .i64 0, .int .u32 0] : Array Value) = pmC pm0 from rfl]
 generalize (w.alloc (.cells (pmC pm0) 55)).alloc (.cells #[.iface 71 (.agg VC), .slice none 0 0] 105) = w2 at *
 have HT0 : Hid (w.heap.size ≤ w.heap.size) := Nat.le_refl _
 generalize w.heap.size + 1 = g at *
 obtain ⟨T, hT⟩ : ∃ T, w.heap.size = T := ⟨_, rfl⟩
 rw [hT] at HNT T2 HT0 ⊢
 have HT : Hid (w.heap.size = T) := hT
 clear hT HBR
 go_wp2
 go_loopw [12] (fun i wr => ∃ (k : Nat) (v : Value), k ≤ t.length ∧ i = .int .i64 k ∧ RS w wr g s a ca v (evalM s [] (t.take k)) ∧ VAt wr T 55 (pmC pm0) ∧ ¬ ft g v T) (fun i _ => t.length - (intOf i).toNat)
 case atStart => exact ⟨0, .slice none 0 0, Nat.zero_le _, rfl, R2, T2.vat, HNT.out⟩
 case round =>
  clear R2 T2 HNT
  obtain ⟨k, v, hk, rfl, R, VT, hNT⟩ := hrel
  by_cases hlt : k < t.length
  ·obtain ⟨b, o, rfl, hcc⟩ := (HC.out.keptNone R.grown).ngs hlt
   have HR : Hid (wr.rangeAt b (o + k * 24) t[k].cells) := hcc k hlt
   have HZ : Hid ((Tryz.prog.info? 52).map (·.size) = some t[k].cells.length ∧ (Tryz.prog.info? 52).map (·.size) = some t[k].cells.toArray.size ∧ 24 = t[k].cells.toArray.size ∧ t[k].cells.toArray.all (·.oneCell') = true) := ⟨ng_len _, ng_size _, rfl, ng_all _⟩
   have HCR : Hid (∀ W, RS w W g s a ca v (evalM s [] (t.take k)) → Calls Tryz.prog 64 #[.pointer (some ⟨g, 0, none⟩), .agg t[k].cells.toArray] W fun e w' => e = .returned (.tuple #[]) ∧ Lft w W g s a ca v (evalM s [] (t.take (k + 1))) w') := fun W RW => by
    obtain ⟨ps, ps', h1, h2, h3⟩ := HST.out k hlt
    rw [eval_next s t hlt]
    exact read_any14 RW HB.out.1 HB.out.2.1 HB.out.2.2 h3 h1 h2
   have HRR : Hid (RS w wr g s a ca v (evalM s [] (t.take k))) := R
   have HVT : Hid (VAt wr T 55 (pmC pm0)) := VT
   have HNT : Hid (¬ ft g v T) := hNT
   generalize t[k].cells = cs at *
   have hl : (k : Int) < (t.length : Int) := by omega
   have z0 : (0 : Int) ≤ (k : Int) := by omega
   have w3 : IntKind.i64.wrap ((k : Int) + 1) = (k : Int) + 1 := by rw [IntKind.wrap_i64]; omega
   clear hcc R VT hNT
   go_upto_region 5 with (first | refine wpList_load_mid rfl 52 (.tmp 14) rfl b (o + k * 24) (by simp [Act.eval]) cs _ HR.out Tryz.underlying52 rfl HZ.out.1 ?_ | refine wpList_store_row rfl 52 (.tmp 7) (.tmp 15) rfl wr.heap.size cs.toArray rfl rfl 52 _ (heap_alloc_new wr _) HZ.out.2.1 HZ.out.2.2.1 HZ.out.2.2.2 ?_)
   rw [World.setRow_alloc_new]
   have V := VAt.alloc wr 52 cs.toArray
   have K3 := World.grownBy_alloc wr (.cells cs.toArray 52) none
   have R3 := HRR.out.keep K3
   have T3 := HVT.out.kept K3
   generalize wr.alloc (.cells cs.toArray 52) = w3 at *
   generalize wr.heap.size = B at *
   clear HR HRR HVT K3
   go_wp2_with (refine wpList_load_row rfl 52 (.tmp 7) rfl B rfl 52 cs.toArray (0, 0) _ V Tryz.underlying52 rfl HZ.out.2.1 ?_)
   refine (HCR.out _ R3).mono ?_
   rintro e w4 ⟨rfl, v4, R4, G4, F4⟩
   have T4 := G4.vat T3 HNT.out
   have N4 : ¬ ft g v4 T := fun e => HNT.out (F4 T T3.lt e)
   clear V R3 T3 HCR G4 F4
   go_wp2
   go_roundw
   case rel => exact ⟨k + 1, v4, by omega, by go_num, R4, T4, N4⟩
   case measure => simp [intOf]; omega
  ·obtain rfl : k = t.length := by omega
   rw [List.take_length, HQ.out] at R
   have CT := take_any14 w s a ca g v [] q wr R
   have HVT : Hid (VAt wr T 55 (pmC pm0)) := VT
   have HNT : Hid (¬ ft g v T) := hNT
   clear R VT hNT
   go_wp2_with fail
   refine CT.mono ?_
   rintro e w5 ⟨rfl, v5, R5, G5, F5⟩
   have T5 := G5.vat HVT.out HNT.out
   have G := R5.grown
   clear CT R5 G5 F5
   go_wp2_with (refine wpList_store_row rfl 55 (.tmp 4) (.tmp 19) rfl T (pmC q) rfl rfl 55 _ T5 (HPS _) rfl (part_all _) ?_)
   refine bodyPost_ret (results_cell_row rfl _ _ T 55 (pmC q) (0, 0) _ rfl (T5.setRow _) Tryz.underlying55 rfl (HPS _)) rfl ?_
   exact ⟨rfl, put_part G (by rw [HT.out]; exact Nat.le_refl _)⟩
def protoS (l : Lk) (b : List UInt8) (v : Vw) : Except Int Vw := (protoV l b v.pos).bind fun q => .ok { v with proto := q.1, pos := q.2 }
def headS (l : Lk) (b : List UInt8) (v : Vw) : Except Int Vw := if l.mp = 0 ∨ v.proto ≠ 61 then .ok v else (headV l b v.pos).bind fun h => .ok { v with multi := true, beg := h.1, fin := h.2.1, seq := h.2.2.1, pos := h.2.2.2 }
def netS (b : List UInt8) (v : Vw) : Except Int Vw := if v.proto = 33 ∨ v.proto = 87 then ipV v b else .ok v
def stepX (l : Lk) (b : List UInt8) : Nat → Vw → Except Int Vw
 | 0, v => if 65535 < b.length then .error 71 else .ok v
 | 1, v => (plainV l b).bind fun p => .ok { v with pos := v.pos + p }
 | 2, v => protoS l b v
 | 3, v => headS l b v
 | 4, v => if v.beg = true then protoS l b v else .ok v
 | 5, v => netS b v
 | _, v => .ok v
def chainX (l : Lk) (b : List UInt8) : Nat → Nat → Vw → Except Int Vw
 | 0, _, v => .ok v
 | n + 1, i, v => (stepX l b i v).bind (chainX l b n (i + 1))
theorem chain_err {l : Lk} {b : List UInt8} {n i : Nat} {v : Vw} {e : Int} (h : stepX l b i v = .error e) : chainX l b (n + 1) i v = .error e := by rw [chainX, h]; rfl
theorem chain_ok {l : Lk} {b : List UInt8} {n i : Nat} {v u : Vw} (h : stepX l b i v = .ok u) : chainX l b (n + 1) i v = chainX l b n (i + 1) u := by rw [chainX, h]; rfl
theorem except_cases {α : Type} (x : Except Int α) : (∃ e, x = .error e) ∨ ∃ a, x = .ok a := by
 cases x with
 | error e => exact .inl ⟨e, rfl⟩
 | ok a => exact .inr ⟨a, rfl⟩
theorem bind_err {α β : Type} {x : Except Int α} {f : α → Except Int β} {e : Int} (h : x = .error e) : x.bind f = .error e := by rw [h]; rfl
theorem chain_perr {l : Lk} {b : List UInt8} {n : Nat} {v : Vw} {e : Int} (h : protoV l b v.pos = .error e) : chainX l b (n + 1) 2 v = .error e := chain_err (show protoS l b v = _ from bind_err h)
theorem chain_pok {l : Lk} {b : List UInt8} {n : Nat} {v : Vw} {q : Nat × Nat} (h : protoV l b v.pos = .ok q) : chainX l b (n + 1) 2 v = chainX l b n 3 { v with proto := q.1, pos := q.2 } := chain_ok (show protoS l b v = _ from bind_of h)
theorem chain_h0 {l : Lk} {b : List UInt8} {n : Nat} {v : Vw} (h : l.mp = 0 ∨ v.proto ≠ 61) : chainX l b (n + 1) 3 v = chainX l b n 4 v := chain_ok (show headS l b v = _ by rw [headS, if_pos h])
theorem chain_herr {l : Lk} {b : List UInt8} {n : Nat} {v : Vw} {e : Int} (h : ¬ (l.mp = 0 ∨ v.proto ≠ 61)) (hh : headV l b v.pos = .error e) : chainX l b (n + 1) 3 v = .error e := chain_err (show headS l b v = _ by rw [headS, if_neg h]; exact bind_err hh)
theorem chain_hok {l : Lk} {b : List UInt8} {n : Nat} {v : Vw} {q : Bool × Bool × Nat × Nat} (h : ¬ (l.mp = 0 ∨ v.proto ≠ 61)) (hh : headV l b v.pos = .ok q) : chainX l b (n + 1) 3 v = chainX l b n 4 { v with multi := true, beg := q.1, fin := q.2.1, seq := q.2.2.1, pos := q.2.2.2 } := chain_ok (show headS l b v = _ by rw [headS, if_neg h]; exact bind_of hh)
theorem tail_eq (l : Lk) (b : List UInt8) (v : Vw) (hb : v.multi = false → v.beg = false) (hp : v.multi = true → v.beg = false → v.proto = 61) : chainX l b 2 4 v =
  (if v.multi = true ∧ v.beg = false then .ok v
  else (if v.multi = true then (protoV l b v.pos).bind fun q => .ok { v with proto := q.1, pos := q.2 } else .ok v).bind fun v =>
   if v.proto = 33 ∨ v.proto = 87 then ipV v b else .ok v) := by
 show (if v.beg = true then protoS l b v else .ok v).bind (fun v => (netS b v).bind fun v => .ok v) = _
 have hid : ∀ x : Except Int Vw, (x.bind fun v => .ok v) = x := fun x => by cases x <;> rfl
 have hn : (fun v => (netS b v).bind fun v => .ok v) = netS b := funext fun v => hid _
 rw [hn]
 obtain ⟨pr, mu, be, fi, sq, po, ne, nx, lo⟩ := v
 cases mu with
 | false =>
  cases be with
  | true => exact absurd (hb rfl) (by simp)
  | false => rfl
 | true =>
  cases be with
  | true => rfl
  | false =>
   show netS b _ = .ok _
   have h61 : pr = 61 := hp rfl rfl
   rw [netS, if_neg (by show ¬ (pr = 33 ∨ pr = 87); omega)]
theorem look_chain {l : Lk} (b : List UInt8) (hc : checkF l = 0) : chainX l b 6 0 Vw.zero = lookX l b := by
 have e0 : lookX l b = (pieceV l b).bind fun v => if v.multi = true ∧ v.beg = false then .ok v
  else (if v.multi = true then (protoV l b v.pos).bind fun q => .ok { v with proto := q.1, pos := q.2 } else .ok v).bind fun v =>
   if v.proto = 33 ∨ v.proto = 87 then ipV v b else .ok v := by rw [lookX, if_neg (by rw [hc]; simp)]
 rw [e0]
 by_cases hl : 65535 < b.length
 ·have e1 : pieceV l b = .error 71 := by rw [pieceV, if_pos hl]
  rw [bind_err e1, chain_err (by rw [stepX, if_pos hl])]
 ·have e1 : pieceV l b = (plainV l b).bind fun p => (protoV l b p).bind fun q =>
   if l.mp = 0 ∨ q.1 ≠ 61 then .ok ⟨q.1, false, false, false, 0, q.2, 0, 0, 0⟩
   else (headV l b q.2).bind fun h => .ok ⟨q.1, true, h.1, h.2.1, h.2.2.1, h.2.2.2, 0, 0, 0⟩ := by rw [pieceV, if_neg hl]
  rw [e1, chain_ok (u := Vw.zero) (by rw [stepX, if_neg hl])]
  rcases except_cases (plainV l b) with ⟨e, hp⟩ | ⟨p, hp⟩
  ·rw [bind_err (bind_err hp), chain_err (i := 1) (show (plainV l b).bind _ = _ from bind_err hp)]
  ·rw [bind_of hp, chain_ok (u := { Vw.zero with pos := p }) (by
    show (plainV l b).bind (fun p => Except.ok { Vw.zero with pos := Vw.zero.pos + p }) = _
    rw [bind_of hp]
    show Except.ok { Vw.zero with pos := 0 + p } = _
    rw [Nat.zero_add])]
   rcases except_cases (protoV l b p) with ⟨e, hq⟩ | ⟨q, hq⟩
   ·rw [bind_err (bind_err hq), chain_perr hq]
   ·rw [bind_of hq, chain_pok hq]
    by_cases hm : l.mp = 0 ∨ q.1 ≠ 61
    ·rw [if_pos hm, chain_h0 hm]
     exact tail_eq l b _ (fun _ => rfl) (fun h => by cases h)
    ·rw [if_neg hm]
     rcases except_cases (headV l b q.2) with ⟨e, hh⟩ | ⟨h, hh⟩
     ·rw [bind_err (bind_err hh), chain_herr hm hh]
     ·rw [bind_of hh, chain_hok hm hh]
      have h61 : q.1 = 61 := Classical.byContradiction fun e => hm (.inr e)
      exact tail_eq l b _ (fun h => by cases h) (fun _ _ => h61)
def wkA (v : Vw) (l : Lk) (s : Value) : Array Value := #[.int .u32 (v.proto : Int), .bool v.multi, .bool v.beg, .bool v.fin, .int .u32 (v.seq : Int), .int .i64 (v.pos : Int), .int .i64 (v.net : Int), .int .i64 (v.next : Int), .int .i64 (v.load : Int), .bool l.acfc, .bool l.pfc, .int .i64 l.mp, s]
def WAt (w : World) (g : Nat) (v : Vw) (l : Lk) (s : Value) : Prop := VAt w g 100 (wkA v l s)
theorem WAt.c {w : World} {g : Nat} {v : Vw} {l : Lk} {s : Value} (h : WAt w g v l s) (i : Nat) : w.cell? ⟨g, i, none⟩ = (wkA v l s)[i]? := VAt.cell h i
theorem WAt.kept {w w' : World} {g : Nat} {v : Vw} {l : Lk} {s : Value} (h : WAt w g v l s) (G : w.grownBy w' none) : WAt w' g v l s := VAt.kept h G
theorem WAt.lt {w : World} {g : Nat} {v : Vw} {l : Lk} {s : Value} (h : WAt w g v l s) : g < w.heap.size := VAt.lt h
def PanE (e : Int) : List PanicEntry := [{ v := .iface 26 (.int .i64 e), recovered := false }]
theorem getV_ok {b : List UInt8} {p k : Nat} (hk : k = 1 ∨ k = 2 ∨ k = 4) (h : p + k ≤ b.length) : getV b (p : Int) (k : Int) = (numAt b p k : Int) ∧ okB b.length (p : Int) (k : Int) = true := by
 have e : okB b.length (p : Int) (k : Int) = true := by unfold okB; exact decide_eq_true ⟨by omega, by omega, by omega⟩
 refine ⟨?_, e⟩
 unfold getV
 rw [if_pos e]
 simp
theorem getV_no {b : List UInt8} {p k : Nat} (h : ¬ p + k ≤ b.length) : getV b (p : Int) (k : Int) = 0 ∧ okB b.length (p : Int) (k : Int) = false := by
 have e : okB b.length (p : Int) (k : Int) = false := by unfold okB; rw [decide_eq_false_iff_not]; omega
 refine ⟨?_, e⟩
 unfold getV
 rw [if_neg (by rw [e]; simp)]
set_option maxHeartbeats 1000000 in
theorem read_ok (g : Nat) (v : Vw) (l : Lk) (a : Option Addr) (ca : Nat) (b : List UInt8) (k s : Nat) (w : World) (h : WAt w g v l (.slice a b.length ca)) (ha : Cells w a b) (hn : b.length ≤ 140737488355328) (hs : s = 1 ∨ s = 2 ∨ s = 4) (hk : v.pos + k + s ≤ b.length) :
  Calls Tryz.prog 142 #[.pointer (some ⟨g, 0, none⟩), .int .i64 (k : Int), .int .i64 (s : Int)] w fun e w' => e = .returned (.int .u32 (numAt b (v.pos + k) s : Int)) ∧ ∃ n, w' = w.drewN n := by
 obtain ⟨e1, e2⟩ := getV_ok (b := b) (p := v.pos + k) hs hk
 have c5 : w.cell? ⟨g, 5, none⟩ = some (.int .i64 (v.pos : Int)) := h.c 5
 have c12 : w.cell? ⟨g, 12, none⟩ = some (.slice a b.length ca) := h.c 12
 have f5 := VAt.free h 5
 have HQ : Hid (∀ n, Calls Tryz.prog 108 #[.slice a b.length ca, .int .i64 ((v.pos + k : Nat) : Int), .int .i64 (s : Int)] (w.drewN n) fun e w' => e = .returned (.tuple #[.int .u32 (numAt b (v.pos + k) s : Int), .bool true]) ∧ w' = w.drewN n) := fun n => by
  have := get_any a ca b ((v.pos + k : Nat) : Int) (s : Int) (w.drewN n) (ha.keptNone (grown_drewN _ _ none)) hn
  rw [e1, e2] at this
  exact this.mono fun _ _ ⟨h, k⟩ => ⟨h, k.symm⟩
 have hw : IntKind.i64.wrap ((v.pos : Int) + (k : Int)) = ((v.pos + k : Nat) : Int) := by rw [IntKind.wrap_i64]; omega
 generalize numAt b (v.pos + k) s = r at *
 generalize hp : v.pos + k = p at *
 clear e1 e2 h ha hs hk
 go_enter Tryz.func142, Tryz.ntmps142
 go_wp2
 go_quiet ((go_at_call 108; first | exact Calls.quiet_of_same (HQ.out _) | exact Calls.quiet_of_same (HQ.out 0)))
 go_wp2
 go_ret
 exact ⟨rfl, _, rfl⟩
set_option maxHeartbeats 1000000 in
theorem read_no (g : Nat) (v : Vw) (l : Lk) (a : Option Addr) (ca : Nat) (b : List UInt8) (k s : Nat) (w : World) (h : WAt w g v l (.slice a b.length ca)) (ha : Cells w a b) (hn : b.length ≤ 140737488355328) (hp2 : v.pos ≤ b.length) (hk2 : k ≤ 100) (hk : ¬ v.pos + k + s ≤ b.length) :
  Calls Tryz.prog 142 #[.pointer (some ⟨g, 0, none⟩), .int .i64 (k : Int), .int .i64 (s : Int)] w fun e w' => e = .panicked (PanE 72) ∧ ∃ n, w' = w.drewN n := by
 obtain ⟨e1, e2⟩ := getV_no (b := b) (p := v.pos + k) hk
 have c5 : w.cell? ⟨g, 5, none⟩ = some (.int .i64 (v.pos : Int)) := h.c 5
 have c12 : w.cell? ⟨g, 12, none⟩ = some (.slice a b.length ca) := h.c 12
 have f5 := VAt.free h 5
 have HQ : Hid (∀ n, Calls Tryz.prog 108 #[.slice a b.length ca, .int .i64 ((v.pos + k : Nat) : Int), .int .i64 (s : Int)] (w.drewN n) fun e w' => e = .returned (.tuple #[.int .u32 0, .bool false]) ∧ w' = w.drewN n) := fun n => by
  have := get_any a ca b ((v.pos + k : Nat) : Int) (s : Int) (w.drewN n) (ha.keptNone (grown_drewN _ _ none)) hn
  rw [e1, e2] at this
  exact this.mono fun _ _ ⟨h, k⟩ => ⟨h, k.symm⟩
 have hw : IntKind.i64.wrap ((v.pos : Int) + (k : Int)) = ((v.pos + k : Nat) : Int) := by rw [IntKind.wrap_i64]; omega
 generalize hp : v.pos + k = p at *
 clear e1 e2 h ha hk
 go_enter Tryz.func142, Tryz.ntmps142
 go_wp2
 go_quiet ((go_at_call 108; first | exact Calls.quiet_of_same (HQ.out _) | exact Calls.quiet_of_same (HQ.out 0)))
 go_wp2
 exact ⟨rfl, rfl, _, rfl⟩
theorem WAt.setPos {w : World} {g : Nat} {v : Vw} {l : Lk} {s : Value} (h : WAt w g v l s) (p : Nat) : WAt (w.setCell ⟨g, 5, none⟩ (.int .i64 (p : Int))) g { v with pos := p } l s := VAt.set h 5 _
theorem WAt.setProto {w : World} {g : Nat} {v : Vw} {l : Lk} {s : Value} (h : WAt w g v l s) (p : Nat) : WAt (w.setCell ⟨g, 0, none⟩ (.int .u32 (p : Int))) g { v with proto := p } l s := VAt.set h 0 _
set_option maxHeartbeats 1000000 in
theorem take_ok (g : Nat) (v : Vw) (l : Lk) (a : Option Addr) (ca : Nat) (b : List UInt8) (s : Nat) (w : World) (h : WAt w g v l (.slice a b.length ca)) (ha : Cells w a b) (hn : b.length ≤ 140737488355328) (hs : s = 1 ∨ s = 2 ∨ s = 4) (hk : v.pos + s ≤ b.length) :
  Calls Tryz.prog 109 #[.pointer (some ⟨g, 0, none⟩), .int .i64 (s : Int)] w fun e w' => e = .returned (.int .u32 (numAt b v.pos s : Int)) ∧ ∃ n, w' = (w.drewN n).setCell ⟨g, 5, none⟩ (.int .i64 ((v.pos + s : Nat) : Int)) := by
 have CR := read_ok g v l a ca b 0 s w h ha hn hs (by omega)
 rw [Nat.add_zero] at CR
 have HC : Hid (∀ n, (w.drewN n).cell? ⟨g, 5, none⟩ = some (.int .i64 (v.pos : Int)) ∧ (w.drewN n).frozen? ⟨g, 5, none⟩ = false) := fun n => ⟨(h.kept (grown_drewN _ _ none)).c 5, VAt.free (h.kept (grown_drewN _ _ none)) 5⟩
 have hw : IntKind.i64.wrap ((v.pos : Int) + (s : Int)) = ((v.pos + s : Nat) : Int) := by rw [IntKind.wrap_i64]; omega
 generalize numAt b v.pos s = r at *
 generalize hp : v.pos + s = p at *
 clear h ha hs hk
 go_enter Tryz.func109, Tryz.ntmps109
 go_wp2_with fail
 refine CR.mono ?_
 rintro e w1 ⟨rfl, n, rfl⟩
 obtain ⟨c5, f5⟩ := HC.out n
 clear CR
 go_wp2
 go_ret
 exact ⟨rfl, _, rfl⟩
set_option maxHeartbeats 1000000 in
theorem take_no (g : Nat) (v : Vw) (l : Lk) (a : Option Addr) (ca : Nat) (b : List UInt8) (s : Nat) (w : World) (h : WAt w g v l (.slice a b.length ca)) (ha : Cells w a b) (hn : b.length ≤ 140737488355328) (hp2 : v.pos ≤ b.length) (hk : ¬ v.pos + s ≤ b.length) :
  Calls Tryz.prog 109 #[.pointer (some ⟨g, 0, none⟩), .int .i64 (s : Int)] w fun e w' => e = .panicked (PanE 72) ∧ ∃ n, w' = w.drewN n := by
 have CR := read_no g v l a ca b 0 s w h ha hn hp2 (by omega) (by omega)
 clear h ha hk
 go_enter Tryz.func109, Tryz.ntmps109
 go_wp2_with fail
 refine CR.mono ?_
 rintro e w1 ⟨rfl, n, rfl⟩
 clear CR
 go_wp2
 exact ⟨rfl, rfl, _, rfl⟩
set_option maxHeartbeats 1000000 in
theorem need_ok (g : Nat) (v : Vw) (l : Lk) (a : Option Addr) (ca n k : Nat) (w : World) (h : WAt w g v l (.slice a n ca)) (hn : n ≤ 140737488355328) (hk : v.pos + k ≤ n) :
  Calls Tryz.prog 143 #[.pointer (some ⟨g, 0, none⟩), .int .i64 (k : Int)] w fun e w' => e = .returned (.tuple #[]) ∧ ∃ n, w' = w.drewN n := by
 have c5 : w.cell? ⟨g, 5, none⟩ = some (.int .i64 (v.pos : Int)) := h.c 5
 have c12 : w.cell? ⟨g, 12, none⟩ = some (.slice a n ca) := h.c 12
 have hd : ¬ (n : Int) - (v.pos : Int) < (k : Int) := by omega
 have hw : IntKind.i64.wrap ((n : Int) - (v.pos : Int)) = (n : Int) - (v.pos : Int) := by rw [IntKind.wrap_i64]; omega
 generalize v.pos = p at *
 clear h hk
 go_enter Tryz.func143, Tryz.ntmps143
 go_wp2
 go_quiet (fail)
 go_wp2
 go_end0
 exact ⟨rfl, _, rfl⟩
set_option maxHeartbeats 1000000 in
theorem need_no (g : Nat) (v : Vw) (l : Lk) (a : Option Addr) (ca n k : Nat) (w : World) (h : WAt w g v l (.slice a n ca)) (hn : n ≤ 140737488355328) (hp : v.pos ≤ n) (hk : ¬ v.pos + k ≤ n) :
  Calls Tryz.prog 143 #[.pointer (some ⟨g, 0, none⟩), .int .i64 (k : Int)] w fun e w' => e = .panicked (PanE 72) ∧ ∃ n, w' = w.drewN n := by
 have c5 : w.cell? ⟨g, 5, none⟩ = some (.int .i64 (v.pos : Int)) := h.c 5
 have c12 : w.cell? ⟨g, 12, none⟩ = some (.slice a n ca) := h.c 12
 have hd : (n : Int) - (v.pos : Int) < (k : Int) := by omega
 have hw : IntKind.i64.wrap ((n : Int) - (v.pos : Int)) = (n : Int) - (v.pos : Int) := by rw [IntKind.wrap_i64]; omega
 generalize v.pos = p at *
 clear h hk
 go_enter Tryz.func143, Tryz.ntmps143
 go_wp2
 go_quiet (fail)
 go_wp2
 exact ⟨rfl, rfl, _, rfl⟩
theorem numAt_one (b : List UInt8) (p : Nat) : numAt b p 1 = bg b p := by
 show numAt b p 0 * 256 + (b.getD (p + 0) 0).toNat = _
 rw [Nat.add_zero]
 show 0 * 256 + _ = _
 rw [Nat.zero_mul, Nat.zero_add]
 rfl
theorem numAt_two (b : List UInt8) (p : Nat) : numAt b p 2 = bg b p * 256 + bg b (p + 1) := by
 show numAt b p 1 * 256 + (b.getD (p + 1) 0).toNat = _
 rw [numAt_one]
 rfl
set_option maxHeartbeats 1000000 in
theorem halves_ok (g : Nat) (v : Vw) (l : Lk) (a : Option Addr) (ca : Nat) (b : List UInt8) (w : World) (h : WAt w g v l (.slice a b.length ca)) (ha : Cells w a b) (hn : b.length ≤ 140737488355328) (hk : v.pos + 1 ≤ b.length) :
  Calls Tryz.prog 144 #[.pointer (some ⟨g, 0, none⟩)] w fun e w' => e = .returned (.tuple #[.int .i64 ((bg b v.pos / 16 : Nat) : Int), .int .i64 ((bg b v.pos % 16 : Nat) : Int)]) ∧ ∃ n, w' = w.drewN n := by
 have CR := read_ok g v l a ca b 0 1 w h ha hn (.inl rfl) (by omega)
 rw [Nat.add_zero, numAt_one] at CR
 have hx := bg_lt b v.pos
 generalize bg b v.pos = x at *
 have hw : IntKind.i64.wrap (x : Int) = (x : Int) := by rw [IntKind.wrap_i64]; omega
 have hlo : bits BinOp.and IntKind.i64 (x : Int) 15 = ((x % 16 : Nat) : Int) := by
  have : ∀ y : Fin 256, bits BinOp.and IntKind.i64 (y.val : Int) 15 = ((y.val % 16 : Nat) : Int) := by decide
  exact this ⟨x, hx⟩
 clear h ha hk
 go_enter Tryz.func144, Tryz.ntmps144
 go_wp2_with fail
 refine CR.mono ?_
 rintro e w1 ⟨rfl, n, rfl⟩
 clear CR
 go_wp2
 go_ret2
 exact ⟨rfl, _, rfl⟩
def StepP (w : World) (g : Nat) (l : Lk) (s : Value) (x : Except Int Vw) (e : Ending) (w' : World) : Prop :=
 w.grownBy w' (some g) ∧ match x with
  | .ok v => e = .returned (.tuple #[]) ∧ WAt w' g v l s
  | .error er => e = .panicked (PanE er)
def FrA (w : World) (g : Nat) (a : Option Addr) (b : List UInt8) : Prop := Cells w a b ∧ ∀ x, a = some x → b ≠ [] → x.block ≠ g
theorem FrA.kept {w w' : World} {g : Nat} {a : Option Addr} {b : List UInt8} (h : FrA w g a b) (G : w.grownBy w' (some g)) : FrA w' g a b :=
 ⟨h.1.kept G (fun ad e hb => by have := h.2 ad e hb; simpa using this), h.2⟩
theorem grown_set {w : World} {g i : Nat} {v : Value} (n : Nat) : w.grownBy ((w.drewN n).setCell ⟨g, i, none⟩ v) (some g) :=
 grown_setCell (grown_drewN w n (some g)) _ _ (.inl rfl)
theorem take_ok' (g : Nat) (v : Vw) (l : Lk) (a : Option Addr) (ca : Nat) (b : List UInt8) (s : Nat) (w : World) (h : WAt w g v l (.slice a b.length ca)) (ha : FrA w g a b) (hn : b.length ≤ 140737488355328) (hs : s = 1 ∨ s = 2 ∨ s = 4) (hk : v.pos + s ≤ b.length) :
  Calls Tryz.prog 109 #[.pointer (some ⟨g, 0, none⟩), .int .i64 (s : Int)] w fun e w' => e = .returned (.int .u32 (numAt b v.pos s : Int)) ∧ WAt w' g { v with pos := v.pos + s } l (.slice a b.length ca) ∧ w.grownBy w' (some g) := by
 refine (take_ok g v l a ca b s w h ha.1 hn hs hk).mono ?_
 rintro e w' ⟨rfl, n, rfl⟩
 exact ⟨rfl, (h.kept (grown_drewN _ n none)).setPos _, grown_set n⟩
set_option maxHeartbeats 1000000 in
theorem length_any (g : Nat) (v : Vw) (l : Lk) (a : Option Addr) (ca n : Nat) (w : World) (h : WAt w g v l (.slice a n ca)) :
  Calls Tryz.prog 58 #[.pointer (some ⟨g, 0, none⟩)] w fun e w' => StepP w g l (.slice a n ca) (if 65535 < n then .error 71 else .ok v) e w' := by
 have c12 : w.cell? ⟨g, 12, none⟩ = some (.slice a n ca) := h.c 12
 have HW : Hid (WAt w g v l (.slice a n ca)) := h
 clear h
 by_cases hl : 65535 < n
 ·have hl' : (65535 : Int) < (n : Int) := by omega
  rw [if_pos hl]
  clear hl
  go_enter Tryz.func58, Tryz.ntmps58
  go_wp2
  exact ⟨rfl, World.grownBy.refl _ _, rfl⟩
 ·have hl' : ¬ (65535 : Int) < (n : Int) := by omega
  rw [if_neg hl]
  clear hl
  go_enter Tryz.func58, Tryz.ntmps58
  go_wp2
  go_end0
  exact ⟨World.grownBy.refl _ _, rfl, HW.out⟩
set_option maxHeartbeats 1000000 in
theorem address_any (g : Nat) (v : Vw) (l : Lk) (a : Option Addr) (ca : Nat) (b : List UInt8) (w : World) (h : WAt w g v l (.slice a b.length ca)) (ha : FrA w g a b) (hn : b.length ≤ 140737488355328) (hv : v.pos ≤ 1000) :
  Calls Tryz.prog 59 #[.pointer (some ⟨g, 0, none⟩)] w fun e w' => StepP w g l (.slice a b.length ca) ((plainV l b).bind fun p => .ok { v with pos := v.pos + p }) e w' := by
 have c12 : w.cell? ⟨g, 12, none⟩ = some (.slice a b.length ca) := h.c 12
 have c9 : w.cell? ⟨g, 9, none⟩ = some (.bool l.acfc) := h.c 9
 have c5 : w.cell? ⟨g, 5, none⟩ = some (.int .i64 (v.pos : Int)) := h.c 5
 have f5 := VAt.free h 5
 have HW : Hid (WAt w g v l (.slice a b.length ca)) := h
 have CG := get_any a ca b 0 2 w ha.1 hn
 have hp : plainV l b = if 2 ≤ b.length ∧ bg b 0 = 255 ∧ bg b 1 = 3 then .ok 2 else if l.acfc = true then .ok 0 else if b.length < 2 then .error 72 else .error 73 := rfl
 rw [hp]
 have b0 := bg_lt b 0
 have b1 := bg_lt b 1
 clear h ha hp
 by_cases h2 : 2 ≤ b.length
 ·obtain ⟨e1, e2⟩ := getV_ok (b := b) (p := 0) (k := 2) (by omega) (by omega)
  rw [show ((0 : Nat) : Int) = 0 from rfl, show ((2 : Nat) : Int) = 2 from rfl] at e1 e2
  rw [e1, e2, numAt_two] at CG
  by_cases hff : bg b 0 = 255 ∧ bg b 1 = 3
  ·have hf : ((bg b 0 * 256 + bg b (0 + 1) : Nat) : Int) = 65283 := by
    rw [Nat.zero_add]; omega
   rw [hf] at CG
   rw [if_pos ⟨h2, hff⟩]
   clear hff b0 b1 e1 e2 hf h2
   have hw : IntKind.i64.wrap ((v.pos : Int) + 2) = ((v.pos + 2 : Nat) : Int) := by rw [IntKind.wrap_i64]; omega
   go_enter Tryz.func59, Tryz.ntmps59
   go_wp2_with fail
   refine CG.mono ?_
   rintro e w1 ⟨rfl, rfl⟩
   clear CG
   go_wp2
   go_end0
   exact ⟨grown_set 0, rfl, HW.out.setPos _⟩
  ·have hf : (((bg b 0 * 256 + bg b (0 + 1) : Nat) : Int) == 65283) = false := by
    rw [Nat.zero_add, beq_eq_false_iff_ne]; omega
   rw [if_neg (fun e => hff e.2), if_neg (show ¬ b.length < 2 by omega)]
   generalize bg b 0 * 256 + bg b (0 + 1) = fld at *
   clear hff b0 b1 e1 e2 h2
   cases hac : l.acfc with
   | true =>
    rw [hac] at c9
    rw [if_pos rfl]
    go_enter Tryz.func59, Tryz.ntmps59
    go_wp2_with fail
    refine CG.mono ?_
    rintro e w1 ⟨rfl, rfl⟩
    clear CG
    go_wp2
    go_end0
    exact ⟨World.grownBy.refl _ _, rfl, HW.out⟩
   | false =>
    rw [hac] at c9
    rw [if_neg (by simp)]
    go_enter Tryz.func59, Tryz.ntmps59
    go_wp2_with fail
    refine CG.mono ?_
    rintro e w1 ⟨rfl, rfl⟩
    clear CG
    go_wp2
    exact ⟨rfl, World.grownBy.refl _ _, rfl⟩
 ·obtain ⟨e1, e2⟩ := getV_no (b := b) (p := 0) (k := 2) (by omega)
  rw [show ((0 : Nat) : Int) = 0 from rfl, show ((2 : Nat) : Int) = 2 from rfl] at e1 e2
  rw [e1, e2] at CG
  rw [if_neg (fun e => h2 e.1), if_pos (show b.length < 2 by omega)]
  clear b0 b1 e1 e2 h2
  cases hac : l.acfc with
  | true =>
   rw [hac] at c9
   rw [if_pos rfl]
   go_enter Tryz.func59, Tryz.ntmps59
   go_wp2_with fail
   refine CG.mono ?_
   rintro e w1 ⟨rfl, rfl⟩
   clear CG
   go_wp2
   go_end0
   exact ⟨World.grownBy.refl _ _, rfl, HW.out⟩
  | false =>
   rw [hac] at c9
   rw [if_neg (by simp)]
   go_enter Tryz.func59, Tryz.ntmps59
   go_wp2_with fail
   refine CG.mono ?_
   rintro e w1 ⟨rfl, rfl⟩
   clear CG
   go_wp2
   exact ⟨rfl, World.grownBy.refl _ _, rfl⟩

end Go.Proofs.YtcodofamdhcfiaaGreat
