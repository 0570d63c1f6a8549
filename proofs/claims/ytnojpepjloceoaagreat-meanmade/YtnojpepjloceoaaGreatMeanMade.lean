/-
  For every link, spec and way riddlelaw14.MeanMade returns true and leaves what was there as it was: no condition of ours.
-/
import Derived.Test.YtnojpepjloceoaaGreatLotP14
import Derived.Test.YtnojpepjloceoaaGreatLotP46
import Derived.Test.YtnojpepjloceoaaGreatLotP43
import Derived.Test.YtnojpepjloceoaaGreatLotP5
import Derived.Deep.DeepCutAuto
namespace Go.Proofs.YtnojpepjloceoaaGreat
open Go.ChangeShapes Go.WideShapes Go.ChangeAt Go.RowKit
set_option maxRecDepth 100000
namespace meanMade

theorem way_one (x : Int) : bits .and .i64 x 1 = 0 ∨ bits .and .i64 x 1 = 1 := by
  have e : (BitVec.ofInt 64 x &&& BitVec.ofInt 64 1).toNat = (BitVec.ofInt 64 x).toNat % 2 := by
    rw [BitVec.toNat_and]
    exact Nat.and_one_is_mod _
  show IntKind.i64.wrap (((BitVec.ofInt 64 x &&& BitVec.ofInt 64 1).toNat : Nat) : Int) = 0 ∨ IntKind.i64.wrap (((BitVec.ofInt 64 x &&& BitVec.ofInt 64 1).toNat : Nat) : Int) = 1
  rw [e]
  rcases Nat.mod_two_eq_zero_or_one (BitVec.ofInt 64 x).toNat with h | h <;> rw [h]
  · exact .inl (by decide)
  · exact .inr (by decide)
theorem none_cap {w : World} {base n c : Nat} {xs : List UInt8} (h : Owns w base (.slice none n c) xs) : c = 0 := by
  rcases h.2 with ⟨e, -⟩ | ⟨g, cap, cur, e, -⟩
  · cases e
    rfl
  · cases e
theorem make_len (l : Lk) (s : Sp) : (exV [] (makeX l s)).length ≤ 65535 := by
  cases h : makeX l s with
  | error e => exact Nat.zero_le _
  | ok b =>
    obtain ⟨-, -, rfl, hl⟩ := make_ok h
    exact hl
theorem bld_ask (l : Lk) (way : Int) (a : Option Addr) (n ca : Nat) (W : World) : (Instr.build 34 #[(0, .agg (lkA l)), (1, .int .i64 way), (2, .slice a n ca)]).run Tryz.prog W = .ok (.agg (askA l way a n ca)) W := by kernel_rfl
theorem bld_wd (of : Int) (W : World) : (Instr.build 37 #[(0, .int .i64 11), (5, .int .i64 of)]).run Tryz.prog W = .ok (.agg (wdN of).cells.toArray) W := by kernel_rfl
theorem bld_pr (n : Nat) (W : World) : (Instr.build 37 #[(0, .int .i64 12), (2, .int .u32 (n : Int))]).run Tryz.prog W = .ok (.agg (prN n).cells.toArray) W := by kernel_rfl
theorem wpList_row {P : Program} {ops : Array Oper} {rest : List Oper} {o : Oper} {a : Act} {w : World} {Q : Exit → Act → World → Prop} (hw : Region.wanted o (yielded ops a.tmps) = true) (ty : TypeId) (x : Operand) (ho : o.op = .load ty x) (g : Nat) (hx : a.eval x = .pointer (some ⟨g, 0, none⟩)) (t : TypeId) (cs : Array Value) (d : TypeDesc) (A : VAt w g t cs)
    (hu : P.underlying ty = some d) (hd : (match d with | .struct _ | .array _ _ => true | _ => false) = true) (hi : (P.info? ty).map (·.size) = some cs.size) (h : wpList P ops Q rest (a.put o.dst (.agg cs)) w) : wpList P ops Q (o :: rest) a w :=
  BigFrame.wpList_want hw fun _ hK => wp_load_row ty x ho g hx t cs (0, 0) d A hu hd hi (hK _ _ h)
theorem wpList_bldW {P : Program} {ops : Array Oper} {rest : List Oper} {op : Oper} {a : Act} {w : World} {Q : Exit → Act → World → Prop} (hw : Region.wanted op (yielded ops a.tmps) = true)
    (t : TypeId) (ps : Array (Nat × Operand)) (ho : op.op = .build t ps) (qs : Array (Nat × Value)) (hq : ps.map (fun (i, x) => (i, a.eval x)) = qs) (v : Value)
    (hr : ∀ W : World, (Instr.build t qs).run P W = .ok v W)
    (h : wpList P ops Q rest (a.put op.dst v) w) : wpList P ops Q (op :: rest) a w :=
  BigFrame.wpList_want hw fun _ hK => by
    unfold Oper.wp execOp
    have hr' := hr w
    rw [← hq] at hr'
    simp only [ho, Sem.run_bind, Sem.run_pure, Result.andThen_ok, hr']
    exact hK _ _ h
theorem yieldsIf_load_mid {P : Program} {ops : Array Oper} {S : World → Prop} {op : Oper} {a : Act} (hw : Region.wanted op (yielded ops a.tmps) = true) (ty : TypeId) (x : Operand) (ho : op.op = .load ty x)
    (g k : Nat) (hx : a.eval x = .pointer (some ⟨g, k, none⟩)) (cs : List Value) (d : TypeDesc) (hS : ∀ w, S w → w.rangeAt g k cs)
    (hu : P.underlying ty = some d) (hd : d.isRow = true) (hi : (P.info? ty).map (·.size) = some cs.length) : YieldsIf P ops S op (.agg cs.toArray) a :=
  .inl ⟨hw, fun w hw' => by
    unfold execOp
    simp only [ho, hx, Instr.loadAt, Instr.sureAddr, Sem.run_bind, Sem.run_pure, Result.andThen_ok, run_loadVar_mid w g k ty cs d (hS w hw') hu hd hi]⟩
theorem bld_hs (of side : Int) (ad : List UInt8) (h : ad.length = 16) (W : World) : (Instr.build 37 #[(0, .int .i64 14), (5, .int .i64 of), (6, .int .i64 side), (7, .agg (ad.map bv).toArray)]).run Tryz.prog W = .ok (.agg (hsN of side ad).cells.toArray) W := by
  match ad, h with
  | [a0, a1, a2, a3, a4, a5, a6, a7, a8, a9, a10, a11, a12, a13, a14, a15], _ =>
    show (Instr.build 37 #[(0, .int .i64 14), (5, .int .i64 of), (6, .int .i64 side), (7, .agg #[bv a0, bv a1, bv a2, bv a3, bv a4, bv a5, bv a6, bv a7, bv a8, bv a9, bv a10, bv a11, bv a12, bv a13, bv a14, bv a15])]).run Tryz.prog W = .ok (.agg (hsN of side [a0, a1, a2, a3, a4, a5, a6, a7, a8, a9, a10, a11, a12, a13, a14, a15]).cells.toArray) W
    kernel_rfl
theorem bld_nx (of : Int) (n : Nat) (W : World) : (Instr.build 37 #[(0, .int .i64 13), (5, .int .i64 of), (2, .int .u32 (n : Int))]).run Tryz.prog W = .ok (.agg (nxN of n).cells.toArray) W := by kernel_rfl
/-- What lies in memory: the spec, the frame on its way. -/
structure MS (w0 W : World) (C D : Nat) (s : Sp) (a : Option Addr) (ca : Nat) (AA : Array Value) : Prop where
  sp : SAt W C s a ca
  dk : VAt W D 34 AA
  up : w0.grownBy W none
theorem MS.kept {w0 W W' : World} {C D : Nat} {s : Sp} {a : Option Addr} {ca : Nat} {AA : Array Value} (h : MS w0 W C D s a ca AA) (K : W.grownBy W' none) : MS w0 W' C D s a ca AA := ⟨h.sp.kept K, h.dk.kept K, grown_trans h.up K⟩
theorem bld_pt0 (W : World) : (Instr.build 37 #[(0, .int .i64 16), (3, .int .u32 65535)]).run Tryz.prog W = .ok (.agg (ptN 0 0 0 65535).cells.toArray) W := by kernel_rfl
theorem bld_n0 (of : Int) (W : World) : (Instr.build 37 #[(0, .int .i64 15), (5, .int .i64 of)]).run Tryz.prog W = .ok (.agg (n0N of).cells.toArray) W := by kernel_rfl
theorem eq16 (xs ys : List UInt8) (hx : xs.length = 16) (hy : ys.length = 16) (w : World) : (Op.equalIn 10000 25 (.agg (xs.map bv).toArray) (.agg (ys.map bv).toArray)).run Tryz.prog w = .ok (decide (xs = ys)) w := by
  obtain ⟨i0, hi, -⟩ := info_parts info5
  exact eq_bytes Tryz.underlying25 hi Tryz.underlying5 (by kernel_rfl) (by kernel_rfl) xs ys hx hy w
theorem bld_p1 (n : Nat) (W : World) : (Instr.build 37 #[(0, .int .i64 16), (6, .int .i64 1), (2, .int .u32 (n : Int)), (3, .int .u32 (n : Int))]).run Tryz.prog W = .ok (.agg (ptN 0 1 n n).cells.toArray) W := by kernel_rfl
theorem bld_p2 (n : Nat) (W : World) : (Instr.build 37 #[(0, .int .i64 16), (5, .int .i64 4), (6, .int .i64 2), (2, .int .u32 (n : Int)), (3, .int .u32 (n : Int))]).run Tryz.prog W = .ok (.agg (ptN 4 2 n n).cells.toArray) W := by kernel_rfl
theorem bld_p3 (n : Nat) (W : World) : (Instr.build 37 #[(0, .int .i64 16), (2, .int .u32 (n : Int)), (3, .int .u32 (n : Int))]).run Tryz.prog W = .ok (.agg (ptN 0 0 n n).cells.toArray) W := by kernel_rfl
theorem said_net (s : Sp) : netM s = if saidB s && ((s.proto : Int) == 87) then 3 else if saidB s && ((s.proto : Int) == 33) then 2 else 0 := by
  have e33 : ((s.proto : Int) == 33) = (s.proto == 33) := by
    rw [Bool.eq_iff_iff, beq_iff_eq, beq_iff_eq]
    omega
  have e87 : ((s.proto : Int) == 87) = (s.proto == 87) := by
    rw [Bool.eq_iff_iff, beq_iff_eq, beq_iff_eq]
    omega
  rw [e33, e87]
  unfold netM ipB
  cases saidB s with
  | false => rfl
  | true =>
    by_cases h33 : s.proto = 33
    · rw [h33]
      rfl
    · by_cases h87 : s.proto = 87
      · rw [h87]
        rfl
      · simp [h33, h87]

set_option maxRecDepth 100000 in
set_option maxHeartbeats 16000000 in
theorem walk (l : Lk) (s : Sp) (a : Option Addr) (ca : Nat) (way : Int) (w : World) (ok : s.ok) (ha : Cells w a s.data) (hc0 : a = none → ca = 0) (_hcp : s.data.length ≤ ca) (hn : s.data.length ≤ 140737488351232) :
    Calls Tryz.prog 3 #[.agg (lkA l), .agg (spA s a ca), .int .i64 way] w fun e w' => e = .returned (.bool true) ∧ w.grownBy w' none := by
  obtain ⟨R, hR⟩ : ∃ R, exV [] (makeX l s) = R := ⟨_, rfl⟩
  obtain ⟨E, hE⟩ : ∃ E, exE (makeX l s) = E := ⟨_, rfl⟩
  have HMK : Hid (∀ (W : World), w.grownBy W none → Calls Tryz.prog 5 #[.agg (lkA l), .agg (spA s a ca)] W fun e w' => ∃ v, e = .returned (.tuple #[v, .int .i64 E]) ∧ Owns w' W.heap.size v R ∧ W.grownBy w' none) := fun W K => by
    have k := make_any l s a ca W ok (ha.keptNone K) hc0 (by omega)
    rw [hR, hE] at k
    exact k
  have HRL : Hid (R.length ≤ 140737488355328) := by
    have := make_len l s
    rw [hR] at this
    show R.length ≤ _
    omega
  have HAW : Hid (∀ W, w.grownBy W none → Calls Tryz.prog 6 #[] W fun e w' => e = .returned (.bool true) ∧ w.grownBy w' none) := fun W K => (awake14_any W).mono (fun e w' h => ⟨h.1, grown_trans K h.2⟩)
  have L0 := VAt.alloc w 23 (lkA l)
  have K1 := World.grownBy_alloc (w.alloc (.cells (lkA l) 23)) (.cells (spA s a ca) 28) none
  have S1 := VAt.alloc (w.alloc (.cells (lkA l) 23)) 28 (spA s a ca)
  have G1 := grown_trans (World.grownBy_alloc w (.cells (lkA l) 23) none) K1
  rw [show (w.alloc (.cells (lkA l) 23)).heap.size = w.heap.size + 1 by simp] at S1
  have LK := L0.kept K1
  have HLS : Hid ((Tryz.prog.info? 23).map (·.size) = some (lkA l).size) := size23
  have HSS : Hid ((Tryz.prog.info? 28).map (·.size) = some (spA s a ca).size) := spA_size ok a ca
  have HOK : Hid s.ok := ok
  have HV : Hid (exV [] (makeX l s) = R ∧ exE (makeX l s) = E) := ⟨hR, hE⟩
  have HW1 : Hid (bits .and .i64 way 1 = 0 ∨ bits .and .i64 way 1 = 1) := way_one way
  clear hR hE L0 K1 ha ok hc0 _hcp hn
  go_enter Tryz.func3, Tryz.ntmps3
  go_upto_region 1 with fail
  generalize (w.alloc (.cells (lkA l) 23)).alloc (.cells (spA s a ca) 28) = w1 at *
  generalize w.heap.size + 1 = C at *
  generalize w.heap.size = B at *
  go_upto_region 2 with fail
  generalize bits .and .i64 way 1 = Y at *
  have HSA : Hid (SAt w1 C s a ca) := ⟨S1, HOK.out⟩
  have HLA : Hid (VAt w1 B 23 (lkA l)) := LK
  clear LK
  obtain ⟨SP, hSP⟩ : ∃ SP, spA s a ca = SP := ⟨_, rfl⟩
  rw [hSP] at S1 HSS HMK
  rw [hSP]
  clear hSP
  go_wp2_with (first
    | (refine wpList_load_row rfl 23 (.tmp 3) rfl B rfl 23 (lkA l) (0, 0) _ HLA.out Tryz.underlying23 rfl HLS.out ?_)
    | (refine wpList_load_row rfl 28 (.tmp 4) rfl C rfl 28 SP (0, 0) _ S1 Tryz.underlying28 rfl HSS.out ?_))
  refine (HMK.out _ G1).mono ?_
  rintro e w2 ⟨v2, rfl, O2, K2⟩
  obtain ⟨a2, c2, rfl, C2, -, -, hb2, -⟩ := O2.shape
  have HR2 : Hid (Cells w2 a2 R ∧ (a2 = none → c2 = 0)) := ⟨C2, by
    intro e
    subst e
    exact none_cap O2⟩
  have HS2 : Hid (SAt w2 C s a ca) := HSA.out.kept K2
  have HL2 : Hid (VAt w2 B 23 (lkA l)) := HLA.out.kept K2
  have G2 := grown_trans G1 K2
  clear C2 O2 hb2 K2 HSA HLA S1 G1 HMK HSS
  go_upto_region 3 with fail
  cases hmk : makeX l s with
  | error er =>
    have hE0 : er = E := by
      have := HV.out.2
      rw [hmk] at this
      exact this
    have ne := make_err hmk
    rw [hE0] at ne
    clear hmk hE0
    go_wp2_with fail
    refine (HAW.out _ G2).mono ?_
    rintro e ws ⟨rfl, Ks⟩
    go_wp2
    go_ret
    exact ⟨rfl, Ks⟩
  | ok bs =>
  have hRb : bs = R := by
    have := HV.out.1
    rw [hmk] at this
    exact this
  have hE0 : 0 = E := by
    have := HV.out.2
    rw [hmk] at this
    exact this
  subst hRb
  subst hE0
  have HNX : Hid (0 ≤ s.next ∧ s.next ≤ 255) := (make_ok hmk).2.1.next
  have HLW : Hid (s.frm ≤ 65535 ∧ s.til ≤ 65535) := (make_ok hmk).2.1.low
  have HMD : Hid (Made l s Y bs) := made_pure HOK.out.src HOK.out.dst hmk HW1.out
  obtain ⟨-, -, m2, m3, -, -, m6, m7⟩ := HS2.out.eight
  have HSN := said_net s
  have HSD : Hid (saidB s = (!s.multi || s.beg)) := rfl
  have HPR : Hid (prM s = if saidB s = true then s.proto else 61) := rfl
  obtain ⟨Mu, hMu⟩ : ∃ Mu, s.multi = Mu := ⟨_, rfl⟩
  obtain ⟨Bg, hBg⟩ : ∃ Bg, s.beg = Bg := ⟨_, rfl⟩
  obtain ⟨P, hP⟩ : ∃ P, s.proto = P := ⟨_, rfl⟩
  obtain ⟨Nx, hNx⟩ : ∃ Nx, s.next = Nx := ⟨_, rfl⟩
  obtain ⟨Sd, hSd⟩ : ∃ Sd, saidB s = Sd := ⟨_, rfl⟩
  rw [hMu] at m2
  rw [hBg] at m3
  rw [hP] at m6
  rw [hNx] at m7
  rw [hMu, hBg, hSd] at HSD
  rw [hSd, hP] at HPR HSN
  have HLT : Hid (s.multi = Mu ∧ s.proto = P ∧ s.next = Nx) := ⟨hMu, hP, hNx⟩
  have HSM : Hid _ := HSN
  clear hMu hBg hP hNx hSd HSN hmk HV HW1
  go_upto_region 5 with fail
  go_cut [10] from 25 to 34 (fun c wx => c = .bool Sd ∧ wx = w2)
  case first =>
    cases Mu with
    | false =>
      go_wp2
      go_meet
      exact ⟨by rw [HSD.out]; rfl, rfl⟩
    | true =>
      go_wp2
      go_meet
      exact ⟨by rw [HSD.out]; rfl, rfl⟩
  case rest =>
  obtain ⟨rfl, hwx⟩ := hcut
  subst hwx
  obtain ⟨w2, hw2⟩ : ∃ w2 : World, w2 = wc := ⟨_, rfl⟩
  subst hw2
  go_upto_region 7 with fail
  go_cut [10, 40] from 35 to 40 (fun c d wx => c = .bool Sd ∧ d = .bool (Sd && ((P : Int) == 33)) ∧ wx = w2)
  case first =>
    cases Sd with
    | false =>
      go_wp2
      go_meet
      exact ⟨rfl, rfl, rfl⟩
    | true =>
      go_wp2
      go_meet
      exact ⟨rfl, rfl, rfl⟩
  case rest =>
  obtain ⟨rfl, rfl, hwx⟩ := hcut
  subst hwx
  obtain ⟨w2, hw2⟩ : ∃ w2 : World, w2 = wc := ⟨_, rfl⟩
  subst hw2
  obtain ⟨b1, hb1⟩ : ∃ b1, (Sd && ((P : Int) == 33)) = b1 := ⟨_, rfl⟩
  rw [hb1] at HSM
  rw [hb1]
  clear hb1
  go_upto_if 40 with fail
  go_cut [11] from 40 to 40 (fun n wx => n = .int .i64 (if b1 = true then 2 else 0) ∧ wx = w2)
  case first =>
    cases b1 with
    | false =>
      go_wp2
      go_meet
      exact ⟨rfl, rfl⟩
    | true =>
      go_wp2
      go_meet
      exact ⟨rfl, rfl⟩
  case rest =>
  obtain ⟨rfl, hwx⟩ := hcut
  subst hwx
  obtain ⟨w2, hw2⟩ : ∃ w2 : World, w2 = wc := ⟨_, rfl⟩
  subst hw2
  obtain ⟨N1, hN1⟩ : ∃ N1 : Int, (if b1 = true then 2 else 0) = N1 := ⟨_, rfl⟩
  rw [hN1] at HSM
  rw [hN1]
  clear hN1
  go_upto_region 9 with fail
  go_cut [10, 46] from 41 to 46 (fun c d wx => c = .bool Sd ∧ d = .bool (Sd && ((P : Int) == 87)) ∧ wx = w2)
  case first =>
    cases Sd with
    | false =>
      go_wp2
      go_meet
      exact ⟨rfl, rfl, rfl⟩
    | true =>
      go_wp2
      go_meet
      exact ⟨rfl, rfl, rfl⟩
  case rest =>
  obtain ⟨rfl, rfl, hwx⟩ := hcut
  subst hwx
  obtain ⟨w2, hw2⟩ : ∃ w2 : World, w2 = wc := ⟨_, rfl⟩
  subst hw2
  obtain ⟨b2, hb2⟩ : ∃ b2, (Sd && ((P : Int) == 87)) = b2 := ⟨_, rfl⟩
  rw [hb2] at HSM
  rw [hb2]
  clear hb2
  go_upto_if 46 with fail
  go_cut [11] from 46 to 46 (fun n wx => n = .int .i64 (if b2 = true then 3 else N1) ∧ wx = w2)
  case first =>
    cases b2 with
    | false =>
      go_wp2
      go_meet
      exact ⟨rfl, rfl⟩
    | true =>
      go_wp2
      go_meet
      exact ⟨rfl, rfl⟩
  case rest =>
  obtain ⟨rfl, hwx⟩ := hcut
  subst hwx
  obtain ⟨w2, hw2⟩ : ∃ w2 : World, w2 = wc := ⟨_, rfl⟩
  subst hw2
  obtain ⟨N, hN⟩ : ∃ N : Int, (if b2 = true then 3 else N1) = N := ⟨_, rfl⟩
  rw [hN] at HSM
  rw [hN]
  clear hN b2 N1 b1
  go_upto_if 50 with fail
  go_cut [10, 12] from 47 to 50 (fun c p wx => c = .bool Sd ∧ p = .int .u32 (((if Sd = true then P else 61) : Nat) : Int) ∧ wx = w2)
  case first =>
    cases Sd with
    | false =>
      go_wp2
      go_meet
      exact ⟨rfl, rfl, rfl⟩
    | true =>
      go_wp2
      go_meet
      exact ⟨rfl, rfl, rfl⟩
  case rest =>
  obtain ⟨rfl, rfl, hwx⟩ := hcut
  subst hwx
  obtain ⟨w2, hw2⟩ : ∃ w2 : World, w2 = wc := ⟨_, rfl⟩
  subst hw2
  obtain ⟨PR, hPR⟩ : ∃ PR : Nat, (if Sd = true then P else 61) = PR := ⟨_, rfl⟩
  rw [hPR] at HPR
  rw [hPR]
  clear hPR
  obtain ⟨AA, hAA⟩ : ∃ AA, askA l Y a2 bs.length c2 = AA := ⟨_, rfl⟩
  have HBA := bld_ask l Y a2 bs.length c2
  have HZA : Hid ((Tryz.prog.info? 34).map (·.size) = some AA.size ∧ 5 = AA.size ∧ AA.all (·.oneCell') = true) := by
    rw [← hAA]
    exact ⟨ask_sz l Y a2 bs.length c2, rfl, by kernel_rfl⟩
  have HIS : Hid (∀ (x : Ng) (want : Bool) (W : World), x.n ≤ 4294967295 → lawJ [x] l Y bs = jdg want → w2.grownBy W none → Calls Tryz.prog 7 #[.agg AA, .agg x.cells.toArray, .bool want] W fun e w' => e = .returned (.bool true) ∧ W.grownBy w' none) := fun x want W h1 h2 K => by
    rw [← hAA]
    exact is_any x want l Y a2 c2 bs W h1 (HR2.out.1.keptNone K) HR2.out.2 HRL.out h2
  rw [hAA] at HBA
  clear hAA
  have K3 := World.grownBy_alloc w2 (.cells AA 34) none
  have HS3 : Hid (MS w2 (w2.alloc (.cells AA 34)) C w2.heap.size s a ca AA) := ⟨HS2.out.kept K3, VAt.alloc _ _ _, K3⟩
  go_upto_region 15 with (first
    | (refine wpList_load_row rfl 23 (.tmp 3) rfl B rfl 23 (lkA l) (0, 0) _ HL2.out Tryz.underlying23 rfl HLS.out ?_)
    | (refine wpList_bld rfl 34 #[(0, .tmp 51), (1, .tmp 52), (2, .tmp 53)] rfl _ (by kernel_rfl) (.agg AA) HBA ?_)
    | (refine wpList_store_row rfl 34 (.tmp 13) (.tmp 54) rfl w2.heap.size AA rfl rfl 34 _ (heap_alloc_new w2 _) HZA.out.1 HZA.out.2.1 HZA.out.2.2 ?_))
  rw [World.setRow_alloc_new]
  clear K3 m2 m3 m6 m7 HBA
  generalize w2.alloc (.cells AA 34) = w3 at *
  generalize w2.heap.size = D at *
  have HMN : Hid ((lawJ [wdN 2] l Y bs = jdg (N == 2) ∧ lawJ [wdN 3] l Y bs = jdg (N == 3) ∧ lawJ [wdN 13] l Y bs = jdg Mu) ∧ lawJ [prN PR] l Y bs = jdg true ∧ lawJ [prN (PR ^^^ 2)] l Y bs = jdg false ∧ PR ≤ 65535) := by
    have h := HMD.out
    have e1 := h.w2
    have e2 := h.w3
    have e3 := h.w13
    have e4 := h.p0
    have e5 := h.p2
    have e6 := h.pr
    rw [HSM.out] at e1 e2
    rw [HLT.out.1] at e3
    rw [HPR.out] at e4 e5 e6
    exact ⟨⟨e1, e2, e3⟩, e4, e5, e6⟩
  have HX2 : Hid (bits .xor .u32 (PR : Int) 2 = ((PR ^^^ 2 : Nat) : Int)) := u32_xor_nat PR 2 (by have := HMN.out.2.2.2; omega) (by omega)
  obtain ⟨XA1, hXA1⟩ : ∃ X, (wdN 2).cells.toArray = X := ⟨_, rfl⟩
  have HBA1 : ∀ W : World, (Instr.build 37 #[(0, .int .i64 11), (5, .int .i64 2)]).run Tryz.prog W = .ok (.agg XA1) W := fun W => by
    rw [← hXA1]
    exact bld_wd 2 W
  have HCA1 : Hid (∀ W, w2.grownBy W none → Calls Tryz.prog 7 #[.agg AA, .agg XA1, .bool (N == 2)] W fun e w' => e = .returned (.bool true) ∧ W.grownBy w' none) := fun W K => by
    rw [← hXA1]
    exact HIS.out (wdN 2) _ W (Nat.zero_le _) HMN.out.1.1 K
  clear hXA1
  obtain ⟨XA2, hXA2⟩ : ∃ X, (wdN 3).cells.toArray = X := ⟨_, rfl⟩
  have HBA2 : ∀ W : World, (Instr.build 37 #[(0, .int .i64 11), (5, .int .i64 3)]).run Tryz.prog W = .ok (.agg XA2) W := fun W => by
    rw [← hXA2]
    exact bld_wd 3 W
  have HCA2 : Hid (∀ W, w2.grownBy W none → Calls Tryz.prog 7 #[.agg AA, .agg XA2, .bool (N == 3)] W fun e w' => e = .returned (.bool true) ∧ W.grownBy w' none) := fun W K => by
    rw [← hXA2]
    exact HIS.out (wdN 3) _ W (Nat.zero_le _) HMN.out.1.2.1 K
  clear hXA2
  obtain ⟨XA3, hXA3⟩ : ∃ X, (wdN 13).cells.toArray = X := ⟨_, rfl⟩
  have HBA3 : ∀ W : World, (Instr.build 37 #[(0, .int .i64 11), (5, .int .i64 13)]).run Tryz.prog W = .ok (.agg XA3) W := fun W => by
    rw [← hXA3]
    exact bld_wd 13 W
  have HCA3 : Hid (∀ W, w2.grownBy W none → Calls Tryz.prog 7 #[.agg AA, .agg XA3, .bool Mu] W fun e w' => e = .returned (.bool true) ∧ W.grownBy w' none) := fun W K => by
    rw [← hXA3]
    exact HIS.out (wdN 13) _ W (Nat.zero_le _) HMN.out.1.2.2 K
  clear hXA3
  obtain ⟨XA4, hXA4⟩ : ∃ X, (prN PR).cells.toArray = X := ⟨_, rfl⟩
  have HBA4 : ∀ W : World, (Instr.build 37 #[(0, .int .i64 12), (2, .int .u32 (PR : Int))]).run Tryz.prog W = .ok (.agg XA4) W := fun W => by
    rw [← hXA4]
    exact bld_pr PR W
  have HCA4 : Hid (∀ W, w2.grownBy W none → Calls Tryz.prog 7 #[.agg AA, .agg XA4, .bool true] W fun e w' => e = .returned (.bool true) ∧ W.grownBy w' none) := fun W K => by
    rw [← hXA4]
    exact HIS.out (prN PR) _ W (by have := HMN.out.2.2.2; show PR ≤ _; omega) HMN.out.2.1 K
  clear hXA4
  obtain ⟨XA5, hXA5⟩ : ∃ X, (prN (PR ^^^ 2)).cells.toArray = X := ⟨_, rfl⟩
  have HBA5 : ∀ W : World, (Instr.build 37 #[(0, .int .i64 12), (2, .int .u32 (bits .xor .u32 (PR : Int) 2))]).run Tryz.prog W = .ok (.agg XA5) W := fun W => by
    rw [HX2.out, ← hXA5]
    exact bld_pr _ W
  have HCA5 : Hid (∀ W, w2.grownBy W none → Calls Tryz.prog 7 #[.agg AA, .agg XA5, .bool false] W fun e w' => e = .returned (.bool true) ∧ W.grownBy w' none) := fun W K => by
    rw [← hXA5]
    exact HIS.out (prN (PR ^^^ 2)) _ W (by have := (xor_two PR HMN.out.2.2.2).1; show PR ^^^ 2 ≤ _; omega) HMN.out.2.2.1 K
  clear hXA5
  go_wp2_with (first
    | (refine wpList_row (by rfl) 34 (.tmp 13) rfl D rfl 34 AA _ HS3.out.dk Tryz.underlying34 rfl HZA.out.1 ?_)
    | (refine wpList_bldW (by rfl) 37 #[(0, .const (.int .i64 11)), (5, .const (.int .i64 2))] rfl _ (by kernel_rfl) (.agg XA1) HBA1 ?_))
  refine (HCA1.out _ HS3.out.up).mono ?_
  rintro e w4 ⟨rfl, K4⟩
  have HS4 : Hid (MS w2 w4 C D s a ca AA) := HS3.out.kept K4
  clear HS3 K4 HBA1 HCA1
  go_wp2_with (first
    | (refine wpList_row (by rfl) 34 (.tmp 13) rfl D rfl 34 AA _ HS4.out.dk Tryz.underlying34 rfl HZA.out.1 ?_)
    | (refine wpList_bldW (by rfl) 37 #[(0, .const (.int .i64 11)), (5, .const (.int .i64 3))] rfl _ (by kernel_rfl) (.agg XA2) HBA2 ?_))
  refine (HCA2.out _ HS4.out.up).mono ?_
  rintro e w5 ⟨rfl, K5⟩
  have HS5 : Hid (MS w2 w5 C D s a ca AA) := HS4.out.kept K5
  clear HS4 K5 HBA2 HCA2
  have m2 : w5.cell? ⟨C, 2, none⟩ = some (.bool s.multi) := HS5.out.sp.eight.2.2.1
  rw [HLT.out.1] at m2
  go_wp2_with (first
    | (refine wpList_row (by rfl) 34 (.tmp 13) rfl D rfl 34 AA _ HS5.out.dk Tryz.underlying34 rfl HZA.out.1 ?_)
    | (refine wpList_bldW (by rfl) 37 #[(0, .const (.int .i64 11)), (5, .const (.int .i64 13))] rfl _ (by kernel_rfl) (.agg XA3) HBA3 ?_))
  refine (HCA3.out _ HS5.out.up).mono ?_
  rintro e w6 ⟨rfl, K6⟩
  have HS6 : Hid (MS w2 w6 C D s a ca AA) := HS5.out.kept K6
  clear HS5 K6 HBA3 HCA3
  go_wp2_with (first
    | (refine wpList_row (by rfl) 34 (.tmp 13) rfl D rfl 34 AA _ HS6.out.dk Tryz.underlying34 rfl HZA.out.1 ?_)
    | (refine wpList_bldW (by rfl) 37 #[(0, .const (.int .i64 12)), (2, .tmp 76)] rfl _ (by kernel_rfl) (.agg XA4) HBA4 ?_))
  refine (HCA4.out _ HS6.out.up).mono ?_
  rintro e w7 ⟨rfl, K7⟩
  have HS7 : Hid (MS w2 w7 C D s a ca AA) := HS6.out.kept K7
  clear HS6 K7 HBA4 HCA4
  go_wp2_with (first
    | (refine wpList_row (by rfl) 34 (.tmp 13) rfl D rfl 34 AA _ HS7.out.dk Tryz.underlying34 rfl HZA.out.1 ?_)
    | (refine wpList_bldW (by rfl) 37 #[(0, .const (.int .i64 12)), (2, .tmp 83)] rfl _ (by kernel_rfl) (.agg XA5) HBA5 ?_))
  refine (HCA5.out _ HS7.out.up).mono ?_
  rintro e w8 ⟨rfl, K8⟩
  have HS8 : Hid (MS w2 w8 C D s a ca AA) := HS7.out.kept K8
  clear HS7 K8 HBA5 HCA5
  go_upto_region 16 with fail
  clear m2
  have m7 : w8.cell? ⟨C, 7, none⟩ = some (.int .i64 s.next) := HS8.out.sp.eight.2.2.2.2.2.2.2
  rw [HLT.out.2.2] at m7
  go_cut [15, 16] from 87 to 100 (fun c d wx => c = .bool ((N != 0) && (Nx == 6)) ∧ d = .bool ((N != 0) && (Nx == 17)) ∧ w8.grownBy wx none)
  case first =>
    by_cases hz : N = 0
    · have n0 : (N != 0) = false := by rw [hz]; rfl
      clear hz
      go_quiet (fail)
      go_wp2
      go_meet
      exact ⟨by rw [n0]; rfl, by rw [n0]; rfl, grown_drewN w8 _ none⟩
    · have n0 : (N != 0) = true := by rw [bne_iff_ne]; exact hz
      clear hz
      go_quiet (fail)
      go_wp2
      go_meet
      exact ⟨by rw [n0]; rfl, by rw [n0]; rfl, grown_drewN w8 _ none⟩
  case rest =>
  obtain ⟨rfl, rfl, K9⟩ := hcut
  obtain ⟨w9, hw9⟩ : ∃ w9 : World, w9 = wc := ⟨_, rfl⟩
  subst hw9
  have HS9 : Hid (MS w2 w9 C D s a ca AA) := HS8.out.kept K9
  clear HS8 K9 m7
  obtain ⟨Tc, hTc⟩ : ∃ Tc, ((N != 0) && (Nx == 6)) = Tc := ⟨_, rfl⟩
  obtain ⟨Ud, hUd⟩ : ∃ Ud, ((N != 0) && (Nx == 17)) = Ud := ⟨_, rfl⟩
  have HTU : Hid (tcpM s = Tc ∧ udpM s = Ud) := by
    unfold tcpM udpM
    rw [HSM.out, HLT.out.2.2]
    exact ⟨hTc, hUd⟩
  rw [hTc, hUd]
  clear hTc hUd
  have HMT : Hid (lawJ [wdN 4] l Y bs = jdg Tc ∧ lawJ [wdN 5] l Y bs = jdg Ud ∧ lawJ [wdN 8] l Y bs = jdg ((PR : Int) == 49185)) := by
    have h := HMD.out
    have e1 := h.w4
    have e2 := h.w5
    have e3 := h.w8
    rw [HTU.out.1] at e1
    rw [HTU.out.2] at e2
    rw [HPR.out, natbeq] at e3
    exact ⟨e1, e2, e3⟩
  obtain ⟨XA6, hXA6⟩ : ∃ X, (wdN 4).cells.toArray = X := ⟨_, rfl⟩
  have HBA6 : ∀ W : World, (Instr.build 37 #[(0, .int .i64 11), (5, .int .i64 4)]).run Tryz.prog W = .ok (.agg XA6) W := fun W => by
    rw [← hXA6]
    exact bld_wd 4 W
  have HCA6 : Hid (∀ W, w2.grownBy W none → Calls Tryz.prog 7 #[.agg AA, .agg XA6, .bool Tc] W fun e w' => e = .returned (.bool true) ∧ W.grownBy w' none) := fun W K => by
    rw [← hXA6]
    exact HIS.out (wdN 4) _ W (Nat.zero_le _) HMT.out.1 K
  clear hXA6
  obtain ⟨XA7, hXA7⟩ : ∃ X, (wdN 5).cells.toArray = X := ⟨_, rfl⟩
  have HBA7 : ∀ W : World, (Instr.build 37 #[(0, .int .i64 11), (5, .int .i64 5)]).run Tryz.prog W = .ok (.agg XA7) W := fun W => by
    rw [← hXA7]
    exact bld_wd 5 W
  have HCA7 : Hid (∀ W, w2.grownBy W none → Calls Tryz.prog 7 #[.agg AA, .agg XA7, .bool Ud] W fun e w' => e = .returned (.bool true) ∧ W.grownBy w' none) := fun W K => by
    rw [← hXA7]
    exact HIS.out (wdN 5) _ W (Nat.zero_le _) HMT.out.2.1 K
  clear hXA7
  obtain ⟨XA8, hXA8⟩ : ∃ X, (wdN 8).cells.toArray = X := ⟨_, rfl⟩
  have HBA8 : ∀ W : World, (Instr.build 37 #[(0, .int .i64 11), (5, .int .i64 8)]).run Tryz.prog W = .ok (.agg XA8) W := fun W => by
    rw [← hXA8]
    exact bld_wd 8 W
  have HCA8 : Hid (∀ W, w2.grownBy W none → Calls Tryz.prog 7 #[.agg AA, .agg XA8, .bool ((PR : Int) == 49185)] W fun e w' => e = .returned (.bool true) ∧ W.grownBy w' none) := fun W K => by
    rw [← hXA8]
    exact HIS.out (wdN 8) _ W (Nat.zero_le _) HMT.out.2.2 K
  clear hXA8
  go_wp2_with (first
    | (refine wpList_row (by rfl) 34 (.tmp 13) rfl D rfl 34 AA _ HS9.out.dk Tryz.underlying34 rfl HZA.out.1 ?_)
    | (refine wpList_bldW (by rfl) 37 #[(0, .const (.int .i64 11)), (5, .const (.int .i64 4))] rfl _ (by kernel_rfl) (.agg XA6) HBA6 ?_))
  refine (HCA6.out _ HS9.out.up).mono ?_
  rintro e w10 ⟨rfl, K10⟩
  have HS10 : Hid (MS w2 w10 C D s a ca AA) := HS9.out.kept K10
  clear HS9 K10 HBA6 HCA6
  go_wp2_with (first
    | (refine wpList_row (by rfl) 34 (.tmp 13) rfl D rfl 34 AA _ HS10.out.dk Tryz.underlying34 rfl HZA.out.1 ?_)
    | (refine wpList_bldW (by rfl) 37 #[(0, .const (.int .i64 11)), (5, .const (.int .i64 5))] rfl _ (by kernel_rfl) (.agg XA7) HBA7 ?_))
  refine (HCA7.out _ HS10.out.up).mono ?_
  rintro e w11 ⟨rfl, K11⟩
  have HS11 : Hid (MS w2 w11 C D s a ca AA) := HS10.out.kept K11
  clear HS10 K11 HBA7 HCA7
  go_wp2_with (first
    | (refine wpList_row (by rfl) 34 (.tmp 13) rfl D rfl 34 AA _ HS11.out.dk Tryz.underlying34 rfl HZA.out.1 ?_)
    | (refine wpList_bldW (by rfl) 37 #[(0, .const (.int .i64 11)), (5, .const (.int .i64 8))] rfl _ (by kernel_rfl) (.agg XA8) HBA8 ?_))
  refine (HCA8.out _ HS11.out.up).mono ?_
  rintro e w12 ⟨rfl, K12⟩
  have HS12 : Hid (MS w2 w12 C D s a ca AA) := HS11.out.kept K12
  clear HS11 K12 HBA8 HCA8
  go_upto_region 18 with fail
  by_cases hz : N = 0
  case pos =>
    have n0 : (N == 0) = true := by rw [hz]; rfl
    have HNZ : Hid (netM s = 0) := by show netM s = 0; rw [HSM.out]; exact hz
    clear hz
    have HZ1 : Hid (lawJ [ptN 0 0 0 65535] l Y bs = jdg false ∧ lawJ [n0N 2] l Y bs = jdg false) := ⟨HMD.out.z16 HNZ.out, HMD.out.z15 HNZ.out⟩
    obtain ⟨XA9, hXA9⟩ : ∃ X, (ptN 0 0 0 65535).cells.toArray = X := ⟨_, rfl⟩
    have HBA9 : ∀ W : World, (Instr.build 37 #[(0, .int .i64 16), (3, .int .u32 65535)]).run Tryz.prog W = .ok (.agg XA9) W := fun W => by
      rw [← hXA9]
      exact bld_pt0 W
    have HCA9 : Hid (∀ W, w2.grownBy W none → Calls Tryz.prog 7 #[.agg AA, .agg XA9, .bool false] W fun e w' => e = .returned (.bool true) ∧ W.grownBy w' none) := fun W K => by
      rw [← hXA9]
      exact HIS.out (ptN 0 0 0 65535) _ W (Nat.zero_le _) HZ1.out.1 K
    clear hXA9
    obtain ⟨XA10, hXA10⟩ : ∃ X, (n0N 2).cells.toArray = X := ⟨_, rfl⟩
    have HBA10 : ∀ W : World, (Instr.build 37 #[(0, .int .i64 15), (5, .int .i64 2)]).run Tryz.prog W = .ok (.agg XA10) W := fun W => by
      rw [← hXA10]
      exact bld_n0 2 W
    have HCA10 : Hid (∀ W, w2.grownBy W none → Calls Tryz.prog 7 #[.agg AA, .agg XA10, .bool false] W fun e w' => e = .returned (.bool true) ∧ W.grownBy w' none) := fun W K => by
      rw [← hXA10]
      exact HIS.out (n0N 2) _ W (Nat.zero_le _) HZ1.out.2 K
    clear hXA10
    go_wp2_with (first
      | (refine wpList_row (by rfl) 34 (.tmp 13) rfl D rfl 34 AA _ HS12.out.dk Tryz.underlying34 rfl HZA.out.1 ?_)
      | (refine wpList_bldW (by rfl) 37 #[(0, .const (.int .i64 16)), (3, .const (.int .u32 65535))] rfl _ (by kernel_rfl) (.agg XA9) HBA9 ?_))
    refine (HCA9.out _ HS12.out.up).mono ?_
    rintro e w13 ⟨rfl, K13⟩
    have HS13 : Hid (MS w2 w13 C D s a ca AA) := HS12.out.kept K13
    clear HS12 K13 HBA9 HCA9
    go_wp2_with (first
      | (refine wpList_row (by rfl) 34 (.tmp 13) rfl D rfl 34 AA _ HS13.out.dk Tryz.underlying34 rfl HZA.out.1 ?_)
      | (refine wpList_bldW (by rfl) 37 #[(0, .const (.int .i64 15)), (5, .const (.int .i64 2))] rfl _ (by kernel_rfl) (.agg XA10) HBA10 ?_))
    refine (HCA10.out _ HS13.out.up).mono ?_
    rintro e w14 ⟨rfl, K14⟩
    have HS14 : Hid (MS w2 w14 C D s a ca AA) := HS13.out.kept K14
    clear HS13 K14 HBA10 HCA10
    go_wp2_with fail
    refine (HAW.out _ (grown_trans G2 HS14.out.up)).mono ?_
    rintro e ws ⟨rfl, Ks⟩
    go_wp2
    go_ret
    exact ⟨rfl, Ks⟩
  case neg =>
  have n0 : (N == 0) = false := by rw [beq_eq_false_iff_ne]; exact hz
  have HNZ : Hid (netM s ≠ 0) := by show netM s ≠ 0; rw [HSM.out]; exact hz
  clear hz
  go_upto_region 20 with fail
  have HMH : Hid (lawJ [hsN N 1 s.src] l Y bs = jdg true ∧ lawJ [hsN N 2 s.dst] l Y bs = jdg true ∧ lawJ [hsN N 2 s.src] l Y bs = jdg (decide (s.src = s.dst)) ∧ lawJ [n0N N] l Y bs = jdg true ∧ lawJ [nxN N Nx.toNat] l Y bs = jdg true ∧ 0 ≤ Nx ∧ Nx ≤ 255) := by
    have h := HMD.out
    have e1 := h.h1 HNZ.out
    have e2 := h.h2 HNZ.out
    have e3 := h.h3 HNZ.out
    have e4 := h.n0 HNZ.out
    have e5 := h.nx HNZ.out
    rw [HSM.out] at e1 e2 e3 e4 e5
    rw [HLT.out.2.2] at e5
    have e6 := HNX.out
    rw [HLT.out.2.2] at e6
    exact ⟨e1, e2, e3, e4, e5, e6⟩
  obtain ⟨XH1, hXH1⟩ : ∃ X, (hsN N 1 s.src).cells.toArray = X := ⟨_, rfl⟩
  have HBH1 : ∀ W : World, (Instr.build 37 #[(0, .int .i64 14), (5, .int .i64 N), (6, .int .i64 1), (7, .agg (s.src.map bv).toArray)]).run Tryz.prog W = .ok (.agg XH1) W := fun W => by
    rw [← hXH1]
    exact bld_hs N 1 s.src HOK.out.src W
  have HCH1 : Hid (∀ W, w2.grownBy W none → Calls Tryz.prog 7 #[.agg AA, .agg XH1, .bool true] W fun e w' => e = .returned (.bool true) ∧ W.grownBy w' none) := fun W K => by
    rw [← hXH1]
    exact HIS.out (hsN N 1 s.src) _ W (Nat.zero_le _) HMH.out.1 K
  clear hXH1
  obtain ⟨XH2, hXH2⟩ : ∃ X, (hsN N 2 s.dst).cells.toArray = X := ⟨_, rfl⟩
  have HBH2 : ∀ W : World, (Instr.build 37 #[(0, .int .i64 14), (5, .int .i64 N), (6, .int .i64 2), (7, .agg (s.dst.map bv).toArray)]).run Tryz.prog W = .ok (.agg XH2) W := fun W => by
    rw [← hXH2]
    exact bld_hs N 2 s.dst HOK.out.dst W
  have HCH2 : Hid (∀ W, w2.grownBy W none → Calls Tryz.prog 7 #[.agg AA, .agg XH2, .bool true] W fun e w' => e = .returned (.bool true) ∧ W.grownBy w' none) := fun W K => by
    rw [← hXH2]
    exact HIS.out (hsN N 2 s.dst) _ W (Nat.zero_le _) HMH.out.2.1 K
  clear hXH2
  obtain ⟨XH3, hXH3⟩ : ∃ X, (hsN N 2 s.src).cells.toArray = X := ⟨_, rfl⟩
  have HBH3 : ∀ W : World, (Instr.build 37 #[(0, .int .i64 14), (5, .int .i64 N), (6, .int .i64 2), (7, .agg (s.src.map bv).toArray)]).run Tryz.prog W = .ok (.agg XH3) W := fun W => by
    rw [← hXH3]
    exact bld_hs N 2 s.src HOK.out.src W
  have HCH3 : Hid (∀ W, w2.grownBy W none → Calls Tryz.prog 7 #[.agg AA, .agg XH3, .bool (decide (s.src = s.dst))] W fun e w' => e = .returned (.bool true) ∧ W.grownBy w' none) := fun W K => by
    rw [← hXH3]
    exact HIS.out (hsN N 2 s.src) _ W (Nat.zero_le _) HMH.out.2.2.1 K
  clear hXH3
  obtain ⟨XH4, hXH4⟩ : ∃ X, (n0N N).cells.toArray = X := ⟨_, rfl⟩
  have HBH4 : ∀ W : World, (Instr.build 37 #[(0, .int .i64 15), (5, .int .i64 N)]).run Tryz.prog W = .ok (.agg XH4) W := fun W => by
    rw [← hXH4]
    exact bld_n0 N W
  have HCH4 : Hid (∀ W, w2.grownBy W none → Calls Tryz.prog 7 #[.agg AA, .agg XH4, .bool true] W fun e w' => e = .returned (.bool true) ∧ W.grownBy w' none) := fun W K => by
    rw [← hXH4]
    exact HIS.out (n0N N) _ W (Nat.zero_le _) HMH.out.2.2.2.1 K
  clear hXH4
  obtain ⟨XH5, hXH5⟩ : ∃ X, (nxN N Nx.toNat).cells.toArray = X := ⟨_, rfl⟩
  have HBH5 : ∀ W : World, (Instr.build 37 #[(0, .int .i64 13), (5, .int .i64 N), (2, .int .u32 ((Nx.toNat : Nat) : Int))]).run Tryz.prog W = .ok (.agg XH5) W := fun W => by
    rw [← hXH5]
    exact bld_nx N Nx.toNat W
  have HCH5 : Hid (∀ W, w2.grownBy W none → Calls Tryz.prog 7 #[.agg AA, .agg XH5, .bool true] W fun e w' => e = .returned (.bool true) ∧ W.grownBy w' none) := fun W K => by
    rw [← hXH5]
    exact HIS.out (nxN N Nx.toNat) _ W (by have := HMH.out.2.2.2.2.2; show Nx.toNat ≤ _; omega) HMH.out.2.2.2.2.1 K
  clear hXH5
  have HQS : Hid ((Tryz.prog.info? 25).map (·.size) = some (s.src.map bv).length ∧ (Tryz.prog.info? 25).map (·.size) = some (s.dst.map bv).length) := by
    rw [List.length_map, List.length_map, HOK.out.src, HOK.out.dst]
    exact ⟨size25, size25⟩
  have HEQ := eq16 s.src s.dst HOK.out.src HOK.out.dst
  have HCO : Hid (IntKind.u32.wrap Nx = max Nx 0) := by
    have := HMH.out.2.2.2.2.2
    show IntKind.u32.wrap Nx = max Nx 0
    rw [show IntKind.u32.wrap Nx = Nx % 4294967296 from rfl]
    omega
  refine wp_region_held_drew (S := fun W => MS w2 W C D s a ca AA) (by kernel_rfl) (HS12.out.kept (grown_drewN w12 1 none)) (fun hHeld => ?_)
  refine wpAnyH_take (i := 0) (v := .bool true) rfl (by kernel_rfl) (by kernel_rfl) (by kernel_rfl) (fun _ _ _ h => h) (Or.inl ⟨by rfl, fun W hW => ?_⟩) hHeld ?_
  · clear hW
    go_simp
  try simp only [Act.put, List.getElem_toArray, List.getElem_cons_zero, List.setIfInBounds_toArray, List.set_cons_zero, List.set_cons_succ]
  refine wpAnyH_take (i := 1) (v := .bool true) rfl (by kernel_rfl) (by kernel_rfl) (by kernel_rfl) (fun _ _ _ h => h) (Or.inl ⟨by rfl, fun W hW => ?_⟩) hHeld ?_
  · clear hW
    go_simp
  try simp only [Act.put, List.getElem_toArray, List.getElem_cons_zero, List.getElem_cons_succ, List.setIfInBounds_toArray, List.set_cons_zero, List.set_cons_succ]
  refine wpAnyH_take (i := 2) (v := .agg (AA)) rfl (by kernel_rfl) (by kernel_rfl) (by kernel_rfl) (fun _ _ _ h => h) (yieldsIf_load_row (by rfl) _ _ rfl D rfl 34 (AA) _ (fun W hW => hW.dk) Tryz.underlying34 rfl HZA.out.1) hHeld ?_
  try simp only [Act.put, List.getElem_toArray, List.getElem_cons_zero, List.getElem_cons_succ, List.setIfInBounds_toArray, List.set_cons_zero, List.set_cons_succ]
  refine wpAnyH_take (i := 3) (v := .int .i64 N) rfl (by kernel_rfl) (by kernel_rfl) (by kernel_rfl) (fun _ _ _ h => h) (Or.inl ⟨by rfl, fun W hW => ?_⟩) hHeld ?_
  · clear hW
    go_simp
  try simp only [Act.put, List.getElem_toArray, List.getElem_cons_zero, List.getElem_cons_succ, List.setIfInBounds_toArray, List.set_cons_zero, List.set_cons_succ]
  refine wpAnyH_take (i := 4) (v := .pointer (some ⟨C, 8, none⟩)) rfl (by kernel_rfl) (by kernel_rfl) (by kernel_rfl) (fun _ _ _ h => h) (Or.inl ⟨by rfl, fun W hW => ?_⟩) hHeld ?_
  · clear hW
    go_simp
  try simp only [Act.put, List.getElem_toArray, List.getElem_cons_zero, List.getElem_cons_succ, List.setIfInBounds_toArray, List.set_cons_zero, List.set_cons_succ]
  refine wpAnyH_take (i := 5) (v := .agg (s.src.map bv).toArray) rfl (by kernel_rfl) (by kernel_rfl) (by kernel_rfl) (fun _ _ _ h => h) (yieldsIf_load_mid (by rfl) _ _ rfl C 8 rfl (s.src.map bv) _ (fun W hW => hW.sp.srcR) Tryz.underlying25 rfl HQS.out.1) hHeld ?_
  try simp only [Act.put, List.getElem_toArray, List.getElem_cons_zero, List.getElem_cons_succ, List.setIfInBounds_toArray, List.set_cons_zero, List.set_cons_succ]
  refine wpAnyH_take (i := 6) (v := .agg XH1) rfl (by kernel_rfl) (by kernel_rfl) (by kernel_rfl) (fun _ _ _ h => h) (yieldsIf_bld (by rfl) 37 _ (by rfl) _ (by kernel_rfl) (.agg XH1) HBH1) hHeld ?_
  try simp only [Act.put, List.getElem_toArray, List.getElem_cons_zero, List.getElem_cons_succ, List.setIfInBounds_toArray, List.set_cons_zero, List.set_cons_succ]
  refine wpAnyH_ready (rs := [7]) (by kernel_rfl) (by simp) (AllReadyH.cons rfl (fun K hK => ?_) AllReadyH.nil)
  go_simp
  refine (HCH1.out _ hHeld.up).mono ?_
  rintro e v1 ⟨rfl, Kv1⟩
  go_wp2_with fail
  refine hK.out _ _ (hHeld.kept Kv1) (fun hHeld => ?_)
  clear hK K
  try simp only [Act.put, List.getElem_toArray, List.getElem_cons_zero, List.getElem_cons_succ, List.setIfInBounds_toArray, List.set_cons_zero, List.set_cons_succ]
  refine wpAnyH_take (i := 8) (v := .bool true) rfl (by kernel_rfl) (by kernel_rfl) (by kernel_rfl) (fun _ _ _ h => h) (Or.inl ⟨by rfl, fun W hW => ?_⟩) hHeld ?_
  · clear hW
    go_simp
  try simp only [Act.put, List.getElem_toArray, List.getElem_cons_zero, List.getElem_cons_succ, List.setIfInBounds_toArray, List.set_cons_zero, List.set_cons_succ]
  refine wpAnyH_take (i := 9) (v := .bool true) rfl (by kernel_rfl) (by kernel_rfl) (by kernel_rfl) (fun _ _ _ h => h) (Or.inl ⟨by rfl, fun W hW => ?_⟩) hHeld ?_
  · clear hW
    go_simp
  try simp only [Act.put, List.getElem_toArray, List.getElem_cons_zero, List.getElem_cons_succ, List.setIfInBounds_toArray, List.set_cons_zero, List.set_cons_succ]
  refine wpAnyH_take (i := 10) (v := .agg (AA)) rfl (by kernel_rfl) (by kernel_rfl) (by kernel_rfl) (fun _ _ _ h => h) (yieldsIf_load_row (by rfl) _ _ rfl D rfl 34 (AA) _ (fun W hW => hW.dk) Tryz.underlying34 rfl HZA.out.1) hHeld ?_
  try simp only [Act.put, List.getElem_toArray, List.getElem_cons_zero, List.getElem_cons_succ, List.setIfInBounds_toArray, List.set_cons_zero, List.set_cons_succ]
  refine wpAnyH_take (i := 11) (v := .int .i64 N) rfl (by kernel_rfl) (by kernel_rfl) (by kernel_rfl) (fun _ _ _ h => h) (Or.inl ⟨by rfl, fun W hW => ?_⟩) hHeld ?_
  · clear hW
    go_simp
  try simp only [Act.put, List.getElem_toArray, List.getElem_cons_zero, List.getElem_cons_succ, List.setIfInBounds_toArray, List.set_cons_zero, List.set_cons_succ]
  refine wpAnyH_take (i := 12) (v := .pointer (some ⟨C, 24, none⟩)) rfl (by kernel_rfl) (by kernel_rfl) (by kernel_rfl) (fun _ _ _ h => h) (Or.inl ⟨by rfl, fun W hW => ?_⟩) hHeld ?_
  · clear hW
    go_simp
  try simp only [Act.put, List.getElem_toArray, List.getElem_cons_zero, List.getElem_cons_succ, List.setIfInBounds_toArray, List.set_cons_zero, List.set_cons_succ]
  refine wpAnyH_take (i := 13) (v := .agg (s.dst.map bv).toArray) rfl (by kernel_rfl) (by kernel_rfl) (by kernel_rfl) (fun _ _ _ h => h) (yieldsIf_load_mid (by rfl) _ _ rfl C 24 rfl (s.dst.map bv) _ (fun W hW => hW.sp.dstR) Tryz.underlying25 rfl HQS.out.2) hHeld ?_
  try simp only [Act.put, List.getElem_toArray, List.getElem_cons_zero, List.getElem_cons_succ, List.setIfInBounds_toArray, List.set_cons_zero, List.set_cons_succ]
  refine wpAnyH_take (i := 14) (v := .agg XH2) rfl (by kernel_rfl) (by kernel_rfl) (by kernel_rfl) (fun _ _ _ h => h) (yieldsIf_bld (by rfl) 37 _ (by rfl) _ (by kernel_rfl) (.agg XH2) HBH2) hHeld ?_
  try simp only [Act.put, List.getElem_toArray, List.getElem_cons_zero, List.getElem_cons_succ, List.setIfInBounds_toArray, List.set_cons_zero, List.set_cons_succ]
  refine wpAnyH_ready (rs := [15]) (by kernel_rfl) (by simp) (AllReadyH.cons rfl (fun K hK => ?_) AllReadyH.nil)
  go_simp
  refine (HCH2.out _ hHeld.up).mono ?_
  rintro e v2 ⟨rfl, Kv2⟩
  go_wp2_with fail
  refine hK.out _ _ (hHeld.kept Kv2) (fun hHeld => ?_)
  clear hK K
  try simp only [Act.put, List.getElem_toArray, List.getElem_cons_zero, List.getElem_cons_succ, List.setIfInBounds_toArray, List.set_cons_zero, List.set_cons_succ]
  refine wpAnyH_take (i := 16) (v := .bool true) rfl (by kernel_rfl) (by kernel_rfl) (by kernel_rfl) (fun _ _ _ h => h) (Or.inl ⟨by rfl, fun W hW => ?_⟩) hHeld ?_
  · clear hW
    go_simp
  try simp only [Act.put, List.getElem_toArray, List.getElem_cons_zero, List.getElem_cons_succ, List.setIfInBounds_toArray, List.set_cons_zero, List.set_cons_succ]
  refine wpAnyH_take (i := 17) (v := .bool true) rfl (by kernel_rfl) (by kernel_rfl) (by kernel_rfl) (fun _ _ _ h => h) (Or.inl ⟨by rfl, fun W hW => ?_⟩) hHeld ?_
  · clear hW
    go_simp
  try simp only [Act.put, List.getElem_toArray, List.getElem_cons_zero, List.getElem_cons_succ, List.setIfInBounds_toArray, List.set_cons_zero, List.set_cons_succ]
  refine wpAnyH_take (i := 18) (v := .agg (AA)) rfl (by kernel_rfl) (by kernel_rfl) (by kernel_rfl) (fun _ _ _ h => h) (yieldsIf_load_row (by rfl) _ _ rfl D rfl 34 (AA) _ (fun W hW => hW.dk) Tryz.underlying34 rfl HZA.out.1) hHeld ?_
  try simp only [Act.put, List.getElem_toArray, List.getElem_cons_zero, List.getElem_cons_succ, List.setIfInBounds_toArray, List.set_cons_zero, List.set_cons_succ]
  refine wpAnyH_take (i := 19) (v := .int .i64 N) rfl (by kernel_rfl) (by kernel_rfl) (by kernel_rfl) (fun _ _ _ h => h) (Or.inl ⟨by rfl, fun W hW => ?_⟩) hHeld ?_
  · clear hW
    go_simp
  try simp only [Act.put, List.getElem_toArray, List.getElem_cons_zero, List.getElem_cons_succ, List.setIfInBounds_toArray, List.set_cons_zero, List.set_cons_succ]
  refine wpAnyH_take (i := 20) (v := .pointer (some ⟨C, 8, none⟩)) rfl (by kernel_rfl) (by kernel_rfl) (by kernel_rfl) (fun _ _ _ h => h) (Or.inl ⟨by rfl, fun W hW => ?_⟩) hHeld ?_
  · clear hW
    go_simp
  try simp only [Act.put, List.getElem_toArray, List.getElem_cons_zero, List.getElem_cons_succ, List.setIfInBounds_toArray, List.set_cons_zero, List.set_cons_succ]
  refine wpAnyH_take (i := 21) (v := .agg (s.src.map bv).toArray) rfl (by kernel_rfl) (by kernel_rfl) (by kernel_rfl) (fun _ _ _ h => h) (yieldsIf_load_mid (by rfl) _ _ rfl C 8 rfl (s.src.map bv) _ (fun W hW => hW.sp.srcR) Tryz.underlying25 rfl HQS.out.1) hHeld ?_
  try simp only [Act.put, List.getElem_toArray, List.getElem_cons_zero, List.getElem_cons_succ, List.setIfInBounds_toArray, List.set_cons_zero, List.set_cons_succ]
  refine wpAnyH_take (i := 22) (v := .agg XH3) rfl (by kernel_rfl) (by kernel_rfl) (by kernel_rfl) (fun _ _ _ h => h) (yieldsIf_bld (by rfl) 37 _ (by rfl) _ (by kernel_rfl) (.agg XH3) HBH3) hHeld ?_
  try simp only [Act.put, List.getElem_toArray, List.getElem_cons_zero, List.getElem_cons_succ, List.setIfInBounds_toArray, List.set_cons_zero, List.set_cons_succ]
  refine wpAnyH_take (i := 23) (v := .pointer (some ⟨C, 8, none⟩)) rfl (by kernel_rfl) (by kernel_rfl) (by kernel_rfl) (fun _ _ _ h => h) (Or.inl ⟨by rfl, fun W hW => ?_⟩) hHeld ?_
  · clear hW
    go_simp
  try simp only [Act.put, List.getElem_toArray, List.getElem_cons_zero, List.getElem_cons_succ, List.setIfInBounds_toArray, List.set_cons_zero, List.set_cons_succ]
  refine wpAnyH_take (i := 24) (v := .agg (s.src.map bv).toArray) rfl (by kernel_rfl) (by kernel_rfl) (by kernel_rfl) (fun _ _ _ h => h) (yieldsIf_load_mid (by rfl) _ _ rfl C 8 rfl (s.src.map bv) _ (fun W hW => hW.sp.srcR) Tryz.underlying25 rfl HQS.out.1) hHeld ?_
  try simp only [Act.put, List.getElem_toArray, List.getElem_cons_zero, List.getElem_cons_succ, List.setIfInBounds_toArray, List.set_cons_zero, List.set_cons_succ]
  refine wpAnyH_take (i := 25) (v := .pointer (some ⟨C, 24, none⟩)) rfl (by kernel_rfl) (by kernel_rfl) (by kernel_rfl) (fun _ _ _ h => h) (Or.inl ⟨by rfl, fun W hW => ?_⟩) hHeld ?_
  · clear hW
    go_simp
  try simp only [Act.put, List.getElem_toArray, List.getElem_cons_zero, List.getElem_cons_succ, List.setIfInBounds_toArray, List.set_cons_zero, List.set_cons_succ]
  refine wpAnyH_take (i := 26) (v := .agg (s.dst.map bv).toArray) rfl (by kernel_rfl) (by kernel_rfl) (by kernel_rfl) (fun _ _ _ h => h) (yieldsIf_load_mid (by rfl) _ _ rfl C 24 rfl (s.dst.map bv) _ (fun W hW => hW.sp.dstR) Tryz.underlying25 rfl HQS.out.2) hHeld ?_
  try simp only [Act.put, List.getElem_toArray, List.getElem_cons_zero, List.getElem_cons_succ, List.setIfInBounds_toArray, List.set_cons_zero, List.set_cons_succ]
  refine wpAnyH_take (i := 27) (v := .bool (decide (s.src = s.dst))) rfl (by kernel_rfl) (by kernel_rfl) (by kernel_rfl) (fun _ _ _ h => h) (Or.inl ⟨by rfl, fun W hW => ?_⟩) hHeld ?_
  · clear hW
    go_simp
  try simp only [Act.put, List.getElem_toArray, List.getElem_cons_zero, List.getElem_cons_succ, List.setIfInBounds_toArray, List.set_cons_zero, List.set_cons_succ]
  refine wpAnyH_ready (rs := [28]) (by kernel_rfl) (by simp) (AllReadyH.cons rfl (fun K hK => ?_) AllReadyH.nil)
  go_simp
  refine (HCH3.out _ hHeld.up).mono ?_
  rintro e v3 ⟨rfl, Kv3⟩
  go_wp2_with fail
  refine hK.out _ _ (hHeld.kept Kv3) (fun hHeld => ?_)
  clear hK K
  try simp only [Act.put, List.getElem_toArray, List.getElem_cons_zero, List.getElem_cons_succ, List.setIfInBounds_toArray, List.set_cons_zero, List.set_cons_succ]
  refine wpAnyH_take (i := 29) (v := .bool true) rfl (by kernel_rfl) (by kernel_rfl) (by kernel_rfl) (fun _ _ _ h => h) (Or.inl ⟨by rfl, fun W hW => ?_⟩) hHeld ?_
  · clear hW
    go_simp
  try simp only [Act.put, List.getElem_toArray, List.getElem_cons_zero, List.getElem_cons_succ, List.setIfInBounds_toArray, List.set_cons_zero, List.set_cons_succ]
  refine wpAnyH_take (i := 30) (v := .bool true) rfl (by kernel_rfl) (by kernel_rfl) (by kernel_rfl) (fun _ _ _ h => h) (Or.inl ⟨by rfl, fun W hW => ?_⟩) hHeld ?_
  · clear hW
    go_simp
  try simp only [Act.put, List.getElem_toArray, List.getElem_cons_zero, List.getElem_cons_succ, List.setIfInBounds_toArray, List.set_cons_zero, List.set_cons_succ]
  refine wpAnyH_take (i := 31) (v := .agg (AA)) rfl (by kernel_rfl) (by kernel_rfl) (by kernel_rfl) (fun _ _ _ h => h) (yieldsIf_load_row (by rfl) _ _ rfl D rfl 34 (AA) _ (fun W hW => hW.dk) Tryz.underlying34 rfl HZA.out.1) hHeld ?_
  try simp only [Act.put, List.getElem_toArray, List.getElem_cons_zero, List.getElem_cons_succ, List.setIfInBounds_toArray, List.set_cons_zero, List.set_cons_succ]
  refine wpAnyH_take (i := 32) (v := .int .i64 N) rfl (by kernel_rfl) (by kernel_rfl) (by kernel_rfl) (fun _ _ _ h => h) (Or.inl ⟨by rfl, fun W hW => ?_⟩) hHeld ?_
  · clear hW
    go_simp
  try simp only [Act.put, List.getElem_toArray, List.getElem_cons_zero, List.getElem_cons_succ, List.setIfInBounds_toArray, List.set_cons_zero, List.set_cons_succ]
  refine wpAnyH_take (i := 33) (v := .agg XH4) rfl (by kernel_rfl) (by kernel_rfl) (by kernel_rfl) (fun _ _ _ h => h) (yieldsIf_bld (by rfl) 37 _ (by rfl) _ (by kernel_rfl) (.agg XH4) HBH4) hHeld ?_
  try simp only [Act.put, List.getElem_toArray, List.getElem_cons_zero, List.getElem_cons_succ, List.setIfInBounds_toArray, List.set_cons_zero, List.set_cons_succ]
  refine wpAnyH_ready (rs := [34]) (by kernel_rfl) (by simp) (AllReadyH.cons rfl (fun K hK => ?_) AllReadyH.nil)
  go_simp
  refine (HCH4.out _ hHeld.up).mono ?_
  rintro e v4 ⟨rfl, Kv4⟩
  go_wp2_with fail
  refine hK.out _ _ (hHeld.kept Kv4) (fun hHeld => ?_)
  clear hK K
  try simp only [Act.put, List.getElem_toArray, List.getElem_cons_zero, List.getElem_cons_succ, List.setIfInBounds_toArray, List.set_cons_zero, List.set_cons_succ]
  refine wpAnyH_take (i := 35) (v := .bool true) rfl (by kernel_rfl) (by kernel_rfl) (by kernel_rfl) (fun _ _ _ h => h) (Or.inl ⟨by rfl, fun W hW => ?_⟩) hHeld ?_
  · clear hW
    go_simp
  try simp only [Act.put, List.getElem_toArray, List.getElem_cons_zero, List.getElem_cons_succ, List.setIfInBounds_toArray, List.set_cons_zero, List.set_cons_succ]
  refine wpAnyH_take (i := 36) (v := .bool true) rfl (by kernel_rfl) (by kernel_rfl) (by kernel_rfl) (fun _ _ _ h => h) (Or.inl ⟨by rfl, fun W hW => ?_⟩) hHeld ?_
  · clear hW
    go_simp
  try simp only [Act.put, List.getElem_toArray, List.getElem_cons_zero, List.getElem_cons_succ, List.setIfInBounds_toArray, List.set_cons_zero, List.set_cons_succ]
  refine wpAnyH_take (i := 37) (v := .agg (AA)) rfl (by kernel_rfl) (by kernel_rfl) (by kernel_rfl) (fun _ _ _ h => h) (yieldsIf_load_row (by rfl) _ _ rfl D rfl 34 (AA) _ (fun W hW => hW.dk) Tryz.underlying34 rfl HZA.out.1) hHeld ?_
  try simp only [Act.put, List.getElem_toArray, List.getElem_cons_zero, List.getElem_cons_succ, List.setIfInBounds_toArray, List.set_cons_zero, List.set_cons_succ]
  refine wpAnyH_take (i := 38) (v := .int .i64 N) rfl (by kernel_rfl) (by kernel_rfl) (by kernel_rfl) (fun _ _ _ h => h) (Or.inl ⟨by rfl, fun W hW => ?_⟩) hHeld ?_
  · clear hW
    go_simp
  try simp only [Act.put, List.getElem_toArray, List.getElem_cons_zero, List.getElem_cons_succ, List.setIfInBounds_toArray, List.set_cons_zero, List.set_cons_succ]
  refine wpAnyH_take (i := 39) (v := .pointer (some ⟨C, 7, none⟩)) rfl (by kernel_rfl) (by kernel_rfl) (by kernel_rfl) (fun _ _ _ h => h) (Or.inl ⟨by rfl, fun W hW => ?_⟩) hHeld ?_
  · clear hW
    go_simp
  try simp only [Act.put, List.getElem_toArray, List.getElem_cons_zero, List.getElem_cons_succ, List.setIfInBounds_toArray, List.set_cons_zero, List.set_cons_succ]
  refine wpAnyH_take (i := 40) (v := .int .i64 Nx) rfl (by kernel_rfl) (by kernel_rfl) (by kernel_rfl) (fun _ _ _ h => h) (Or.inl ⟨by rfl, fun W hW => ?_⟩) hHeld ?_
  · have m7 : W.cell? ⟨C, 7, none⟩ = some (.int .i64 Nx) := by
      have h := hW.sp.eight.2.2.2.2.2.2.2
      rw [HLT.out.2.2] at h
      exact h
    clear hW
    go_simp
  try simp only [Act.put, List.getElem_toArray, List.getElem_cons_zero, List.getElem_cons_succ, List.setIfInBounds_toArray, List.set_cons_zero, List.set_cons_succ]
  refine wpAnyH_take (i := 41) (v := .int .u32 ((Nx.toNat : Nat) : Int)) rfl (by kernel_rfl) (by kernel_rfl) (by kernel_rfl) (fun _ _ _ h => h) (Or.inl ⟨by rfl, fun W hW => ?_⟩) hHeld ?_
  · clear hW
    go_simp
    exact HCO.out
  try simp only [Act.put, List.getElem_toArray, List.getElem_cons_zero, List.getElem_cons_succ, List.setIfInBounds_toArray, List.set_cons_zero, List.set_cons_succ]
  refine wpAnyH_take (i := 42) (v := .agg XH5) rfl (by kernel_rfl) (by kernel_rfl) (by kernel_rfl) (fun _ _ _ h => h) (yieldsIf_bld (by rfl) 37 _ (by rfl) _ (by kernel_rfl) (.agg XH5) HBH5) hHeld ?_
  try simp only [Act.put, List.getElem_toArray, List.getElem_cons_zero, List.getElem_cons_succ, List.setIfInBounds_toArray, List.set_cons_zero, List.set_cons_succ]
  refine wpAnyH_ready (rs := [43]) (by kernel_rfl) (by simp) (AllReadyH.cons rfl (fun K hK => ?_) AllReadyH.nil)
  go_simp
  refine (HCH5.out _ hHeld.up).mono ?_
  rintro e v5 ⟨rfl, Kv5⟩
  go_wp2_with fail
  refine hK.out _ _ (hHeld.kept Kv5) (fun hHeld => ?_)
  clear hK K
  try simp only [Act.put, List.getElem_toArray, List.getElem_cons_zero, List.getElem_cons_succ, List.setIfInBounds_toArray, List.set_cons_zero, List.set_cons_succ]
  refine wpAnyH_take (i := 44) (v := .bool true) rfl (by kernel_rfl) (by kernel_rfl) (by kernel_rfl) (fun _ _ _ h => h) (Or.inl ⟨by rfl, fun W hW => ?_⟩) hHeld ?_
  · clear hW
    go_simp
  try simp only [Act.put, List.getElem_toArray, List.getElem_cons_zero, List.getElem_cons_succ, List.setIfInBounds_toArray, List.set_cons_zero, List.set_cons_succ]
  refine wpAnyH_take (i := 45) (v := .bool true) rfl (by kernel_rfl) (by kernel_rfl) (by kernel_rfl) (fun _ _ _ h => h) (Or.inl ⟨by rfl, fun W hW => ?_⟩) hHeld ?_
  · clear hW
    go_simp
  try simp only [Act.put, List.getElem_toArray, List.getElem_cons_zero, List.getElem_cons_succ, List.setIfInBounds_toArray, List.set_cons_zero, List.set_cons_succ]
  refine wpAnyH_done (by kernel_rfl) ?_ _
  have HSV : Hid (MS w2 v5 C D s a ca AA) := hHeld
  clear hHeld HEQ HQS HCO HBH1 HBH2 HBH3 HBH4 HBH5 HCH1 HCH2 HCH3 HCH4 HCH5 HMH
  obtain ⟨m40, m41, m42, -⟩ := HSV.out.sp.four
  have HMQ : Hid (s.ports = true → lawJ [ptN 0 1 s.frm s.frm] l Y bs = jdg (Tc || Ud) ∧ lawJ [ptN 4 2 s.til s.til] l Y bs = jdg Tc ∧ lawJ [ptN 0 0 s.til s.til] l Y bs = jdg (Tc || Ud) ∧ s.frm ≤ 65535 ∧ s.til ≤ 65535) := fun hp => by
    have h := HMD.out
    have e1 := h.q1 HNZ.out hp
    have e2 := h.q2 HNZ.out hp
    have e3 := h.q3 HNZ.out hp
    rw [HTU.out.1, HTU.out.2] at e1 e3
    rw [HTU.out.1] at e2
    exact ⟨e1, e2, e3, HLW.out⟩
  obtain ⟨Po, hPo⟩ : ∃ Po, s.ports = Po := ⟨_, rfl⟩
  obtain ⟨Fr, hFr⟩ : ∃ Fr, s.frm = Fr := ⟨_, rfl⟩
  obtain ⟨Ti, hTi⟩ : ∃ Ti, s.til = Ti := ⟨_, rfl⟩
  rw [hPo] at m40 HMQ
  rw [hFr] at m41 HMQ
  rw [hTi] at m42 HMQ
  have HFT : Hid (s.frm = Fr ∧ s.til = Ti) := ⟨hFr, hTi⟩
  clear hPo hFr hTi
  cases Po with
  | false =>
    clear m41 m42
    go_wp2_with fail
    refine (HAW.out _ (grown_trans G2 HSV.out.up)).mono ?_
    rintro e ws ⟨rfl, Ks⟩
    go_wp2
    go_ret
    exact ⟨rfl, Ks⟩
  | true =>
  have HQ := HMQ.out rfl
  have HMQ2 : Hid _ := HQ
  clear HQ HMQ
  go_upto_region 22 with fail
  obtain ⟨XQ1, hXQ1⟩ : ∃ X, (ptN 0 1 Fr Fr).cells.toArray = X := ⟨_, rfl⟩
  have HBQ1 : ∀ W : World, (Instr.build 37 #[(0, .int .i64 16), (6, .int .i64 1), (2, .int .u32 (Fr : Int)), (3, .int .u32 (Fr : Int))]).run Tryz.prog W = .ok (.agg XQ1) W := fun W => by
    rw [← hXQ1]
    exact bld_p1 Fr W
  have HCQ1 : Hid (∀ W, w2.grownBy W none → Calls Tryz.prog 7 #[.agg AA, .agg XQ1, .bool (Tc || Ud)] W fun e w' => e = .returned (.bool true) ∧ W.grownBy w' none) := fun W K => by
    rw [← hXQ1]
    exact HIS.out (ptN 0 1 Fr Fr) _ W (by have := HMQ2.out.2.2.2.1; show Fr ≤ _; omega) HMQ2.out.1 K
  clear hXQ1
  obtain ⟨XQ2, hXQ2⟩ : ∃ X, (ptN 4 2 Ti Ti).cells.toArray = X := ⟨_, rfl⟩
  have HBQ2 : ∀ W : World, (Instr.build 37 #[(0, .int .i64 16), (5, .int .i64 4), (6, .int .i64 2), (2, .int .u32 (Ti : Int)), (3, .int .u32 (Ti : Int))]).run Tryz.prog W = .ok (.agg XQ2) W := fun W => by
    rw [← hXQ2]
    exact bld_p2 Ti W
  have HCQ2 : Hid (∀ W, w2.grownBy W none → Calls Tryz.prog 7 #[.agg AA, .agg XQ2, .bool Tc] W fun e w' => e = .returned (.bool true) ∧ W.grownBy w' none) := fun W K => by
    rw [← hXQ2]
    exact HIS.out (ptN 4 2 Ti Ti) _ W (by have := HMQ2.out.2.2.2.2; show Ti ≤ _; omega) HMQ2.out.2.1 K
  clear hXQ2
  obtain ⟨XQ3, hXQ3⟩ : ∃ X, (ptN 0 0 Ti Ti).cells.toArray = X := ⟨_, rfl⟩
  have HBQ3 : ∀ W : World, (Instr.build 37 #[(0, .int .i64 16), (2, .int .u32 (Ti : Int)), (3, .int .u32 (Ti : Int))]).run Tryz.prog W = .ok (.agg XQ3) W := fun W => by
    rw [← hXQ3]
    exact bld_p3 Ti W
  have HCQ3 : Hid (∀ W, w2.grownBy W none → Calls Tryz.prog 7 #[.agg AA, .agg XQ3, .bool (Tc || Ud)] W fun e w' => e = .returned (.bool true) ∧ W.grownBy w' none) := fun W K => by
    rw [← hXQ3]
    exact HIS.out (ptN 0 0 Ti Ti) _ W (by have := HMQ2.out.2.2.2.2; show Ti ≤ _; omega) HMQ2.out.2.2.1 K
  clear hXQ3
  cases Tc with
  | true =>
    have HDQ1 : Hid (∀ W, w2.grownBy W none → Calls Tryz.prog 7 #[.agg AA, .agg XQ1, .bool true] W fun e w' => e = .returned (.bool true) ∧ W.grownBy w' none) := HCQ1
    go_wp2_with (first
      | (refine wpList_row (by rfl) 34 (.tmp 13) rfl D rfl 34 AA _ HSV.out.dk Tryz.underlying34 rfl HZA.out.1 ?_)
      | (refine wpList_bldW (by rfl) 37 #[(0, .const (.int .i64 16)), (6, .const (.int .i64 1)), (2, .tmp 188), (3, .tmp 190)] rfl _ (by kernel_rfl) (.agg XQ1) HBQ1 ?_))
    refine (HDQ1.out _ HSV.out.up).mono ?_
    rintro e z1 ⟨rfl, Kz1⟩
    have Hz1 : Hid (MS w2 z1 C D s a ca AA) := HSV.out.kept Kz1
    clear Kz1 HBQ1 HCQ1 HDQ1
    have m42z2 : z1.cell? ⟨C, 42, none⟩ = some (.int .u32 (s.til : Int)) := Hz1.out.sp.four.2.2.1
    rw [HFT.out.2] at m42z2
    have HDQ2 : Hid (∀ W, w2.grownBy W none → Calls Tryz.prog 7 #[.agg AA, .agg XQ2, .bool true] W fun e w' => e = .returned (.bool true) ∧ W.grownBy w' none) := HCQ2
    go_wp2_with (first
      | (refine wpList_row (by rfl) 34 (.tmp 13) rfl D rfl 34 AA _ Hz1.out.dk Tryz.underlying34 rfl HZA.out.1 ?_)
      | (refine wpList_bldW (by rfl) 37 #[(0, .const (.int .i64 16)), (5, .const (.int .i64 4)), (6, .const (.int .i64 2)), (2, .tmp 201), (3, .tmp 203)] rfl _ (by kernel_rfl) (.agg XQ2) HBQ2 ?_))
    refine (HDQ2.out _ Hz1.out.up).mono ?_
    rintro e z2 ⟨rfl, Kz2⟩
    have Hz2 : Hid (MS w2 z2 C D s a ca AA) := Hz1.out.kept Kz2
    clear Kz2 HBQ2 HCQ2 HDQ2
    have m42z3 : z2.cell? ⟨C, 42, none⟩ = some (.int .u32 (s.til : Int)) := Hz2.out.sp.four.2.2.1
    rw [HFT.out.2] at m42z3
    have HDQ3 : Hid (∀ W, w2.grownBy W none → Calls Tryz.prog 7 #[.agg AA, .agg XQ3, .bool true] W fun e w' => e = .returned (.bool true) ∧ W.grownBy w' none) := HCQ3
    go_wp2_with (first
      | (refine wpList_row (by rfl) 34 (.tmp 13) rfl D rfl 34 AA _ Hz2.out.dk Tryz.underlying34 rfl HZA.out.1 ?_)
      | (refine wpList_bldW (by rfl) 37 #[(0, .const (.int .i64 16)), (2, .tmp 211), (3, .tmp 213)] rfl _ (by kernel_rfl) (.agg XQ3) HBQ3 ?_))
    refine (HDQ3.out _ Hz2.out.up).mono ?_
    rintro e z3 ⟨rfl, Kz3⟩
    have Hz3 : Hid (MS w2 z3 C D s a ca AA) := Hz2.out.kept Kz3
    clear Kz3 HBQ3 HCQ3 HDQ3
    go_wp2_with fail
    refine (HAW.out _ (grown_trans G2 Hz3.out.up)).mono ?_
    rintro e ws ⟨rfl, Ks⟩
    go_wp2
    go_ret
    exact ⟨rfl, Ks⟩
  | false =>
    have HDQ1 : Hid (∀ W, w2.grownBy W none → Calls Tryz.prog 7 #[.agg AA, .agg XQ1, .bool Ud] W fun e w' => e = .returned (.bool true) ∧ W.grownBy w' none) := HCQ1
    go_wp2_with (first
      | (refine wpList_row (by rfl) 34 (.tmp 13) rfl D rfl 34 AA _ HSV.out.dk Tryz.underlying34 rfl HZA.out.1 ?_)
      | (refine wpList_bldW (by rfl) 37 #[(0, .const (.int .i64 16)), (6, .const (.int .i64 1)), (2, .tmp 188), (3, .tmp 190)] rfl _ (by kernel_rfl) (.agg XQ1) HBQ1 ?_))
    refine (HDQ1.out _ HSV.out.up).mono ?_
    rintro e z1 ⟨rfl, Kz1⟩
    have Hz1 : Hid (MS w2 z1 C D s a ca AA) := HSV.out.kept Kz1
    clear Kz1 HBQ1 HCQ1 HDQ1
    have m42z2 : z1.cell? ⟨C, 42, none⟩ = some (.int .u32 (s.til : Int)) := Hz1.out.sp.four.2.2.1
    rw [HFT.out.2] at m42z2
    have HDQ2 : Hid (∀ W, w2.grownBy W none → Calls Tryz.prog 7 #[.agg AA, .agg XQ2, .bool false] W fun e w' => e = .returned (.bool true) ∧ W.grownBy w' none) := HCQ2
    go_wp2_with (first
      | (refine wpList_row (by rfl) 34 (.tmp 13) rfl D rfl 34 AA _ Hz1.out.dk Tryz.underlying34 rfl HZA.out.1 ?_)
      | (refine wpList_bldW (by rfl) 37 #[(0, .const (.int .i64 16)), (5, .const (.int .i64 4)), (6, .const (.int .i64 2)), (2, .tmp 201), (3, .tmp 203)] rfl _ (by kernel_rfl) (.agg XQ2) HBQ2 ?_))
    refine (HDQ2.out _ Hz1.out.up).mono ?_
    rintro e z2 ⟨rfl, Kz2⟩
    have Hz2 : Hid (MS w2 z2 C D s a ca AA) := Hz1.out.kept Kz2
    clear Kz2 HBQ2 HCQ2 HDQ2
    have m42z3 : z2.cell? ⟨C, 42, none⟩ = some (.int .u32 (s.til : Int)) := Hz2.out.sp.four.2.2.1
    rw [HFT.out.2] at m42z3
    have HDQ3 : Hid (∀ W, w2.grownBy W none → Calls Tryz.prog 7 #[.agg AA, .agg XQ3, .bool Ud] W fun e w' => e = .returned (.bool true) ∧ W.grownBy w' none) := HCQ3
    go_wp2_with (first
      | (refine wpList_row (by rfl) 34 (.tmp 13) rfl D rfl 34 AA _ Hz2.out.dk Tryz.underlying34 rfl HZA.out.1 ?_)
      | (refine wpList_bldW (by rfl) 37 #[(0, .const (.int .i64 16)), (2, .tmp 211), (3, .tmp 213)] rfl _ (by kernel_rfl) (.agg XQ3) HBQ3 ?_))
    refine (HDQ3.out _ Hz2.out.up).mono ?_
    rintro e z3 ⟨rfl, Kz3⟩
    have Hz3 : Hid (MS w2 z3 C D s a ca AA) := Hz2.out.kept Kz3
    clear Kz3 HBQ3 HCQ3 HDQ3
    go_wp2_with fail
    refine (HAW.out _ (grown_trans G2 Hz3.out.up)).mono ?_
    rintro e ws ⟨rfl, Ks⟩
    go_wp2
    go_ret
    exact ⟨rfl, Ks⟩

set_option maxRecDepth 100000 in
theorem lifted (os : Os) (started : os.Started) (H : Type) (enc : TypeId × Value → H) :
    ReturnsInHanded {} Tryz.checked os 3 .any (Rows.meanMadeSpec.pre6 enc Tryz.prog Tryz.f3 Rows.meanMadeRow.domain false) (Rows.meanMadeSpec.post enc Tryz.prog Tryz.f3 false true false false) := by
  refine returnsInHanded_of_change_sized (C := Tryz.checked) own started (by kernel_rfl) Tryz.func3
    (ChangeSpec.witness6 (enc := enc) (C := Tryz.checked) false ⟨#[], #[.agg #[.bool false, .bool false, .int .i64 0], .agg #[.bool false, .bool false, .bool false, .bool false, .bool false, .int .u32 0, .int .u32 0, .int .i64 0, .int .u8 0, .int .u8 0, .int .u8 0, .int .u8 0, .int .u8 0, .int .u8 0, .int .u8 0, .int .u8 0, .int .u8 0, .int .u8 0, .int .u8 0, .int .u8 0, .int .u8 0, .int .u8 0, .int .u8 0, .int .u8 0, .int .u8 0, .int .u8 0, .int .u8 0, .int .u8 0, .int .u8 0, .int .u8 0, .int .u8 0, .int .u8 0, .int .u8 0, .int .u8 0, .int .u8 0, .int .u8 0, .int .u8 0, .int .u8 0, .int .u8 0, .int .u8 0, .bool false, .int .u32 0, .int .u32 0, .slice none 0 0], .int .i64 0], []⟩ 8 (by kernel_rfl) (by kernel_rfl) (by kernel_rfl) (by kernel_rfl)) ?_
  intro W base args ds gs before hval0 hW hcnd hsz0 _
  have hsz : (DataW.weightsEach Tryz.prog (Tryz.f3.params.toList ++ Rows.meanMadeSpec.plain.varTypes Tryz.prog) (ds ++ gs)).all (· ≤ reachBytes) = true := hsz0
  have hval : ∀ (j : Nat) t v, Tryz.f3.params[j]? = some t → args[j]? = some v → Value.okWide Tryz.prog W .any base t v := hval0
  have hW' := hW
  obtain ⟨p, q, hA0, hV, rfl, hfz, hnd⟩ := hW
  have hA : DataW.TrodAll enc Tryz.prog W 0 (fun _ => true) true Tryz.f3.params.toList args.toList ds p := hA0
  rw [Tryz.params3] at hA hval hsz
  obtain ⟨v0, vs0, d0, ds0, p0, q0, hargs, rfl, rfl, h0, r0⟩ := trodAll_cons hA
  obtain ⟨v1, vs1, d1, ds1, p1, q1, rfl, rfl, rfl, h1, r1⟩ := trodAll_cons r0
  obtain ⟨v2, vs2, d2, ds2, p2, q2, rfl, rfl, rfl, h2, r2⟩ := trodAll_cons r1
  obtain ⟨rfl, rfl, rfl⟩ := trodAll_nil r2
  obtain rfl : args = #[v0, v1, v2] := by cases args; simp_all
  obtain ⟨rfl, rfl⟩ := trodVars_none hV
  have k0 := h0
  have lt0 : ∀ x ∈ p0, x.block < W.heap.size := by obtain ⟨m, hm⟩ := k0; exact DataW.trod_lt m _ _ _ hm
  obtain ⟨x0, rfl⟩ := open_link h0
  have k1 := h1
  have lt1 : ∀ x ∈ p1, x.block < W.heap.size := by obtain ⟨m, hm⟩ := k1; exact DataW.trod_lt m _ _ _ hm
  obtain ⟨s1, a1, cap1, rfl, hok1, hcells1, hnil1, hcp1, parts1, e1, rfl, hpp1, hdt1⟩ := open_spec h1
  have hlen1 := sized_spec hsz (j := 1) rfl rfl hpp1 hdt1
  obtain ⟨x2, rfl, rfl, rfl, w2⟩ := open_int Tryz.underlying3 (hval 2 3 v2 rfl rfl) h2
  clear hA0 hval0
  refine (walk x0 s1 a1 cap1 x2 W hok1 hcells1 hnil1 hcp1 hlen1).mono fun e W' ⟨he, hg⟩ => ?_
  subst he
  have bel : Below W.heap.size W W' := (Below.refl _ _).grown hg (Nat.le_refl _) (by simp)
  exact ⟨_, rfl, _, _, _, [], _, [], hW', trodAll_mk1 (shut_bool Tryz.underlying4 _), (trodAll_cons_mk (Below.trod laidOut (by kernel_rfl) (of_decide_eq_true (by kernel_rfl)) k0 bel lt0) (trodAll_cons_mk (Below.trod laidOut (by kernel_rfl) (of_decide_eq_true (by kernel_rfl)) k1 bel lt1) (trodAll_cons_mk (shut_int Tryz.underlying3 w2) trodAll_mk0))), rfl, bel.frame _, fun h => by cases h⟩

theorem over : Rows.MeanMadeSaid :=
  OpenClaim.holds_of_wide 3 Tryz.f3 rfl rfl rfl rfl rfl rfl rfl ⟨rfl, rfl, rfl, rfl, rfl⟩ rfl rfl rfl rfl rfl (by kernel_rfl) Tryz.func3 (by kernel_rfl)
    (of_decide_eq_true (by kernel_rfl)) (by unfold Func.isWrapper; first | (rw [if_pos (by decide +kernel)]; kernel_rfl) | (rw [if_neg (by decide +kernel)]; exact ⟨rfl, rfl⟩))
    (fun os started H enc _ => lifted os started H enc)

end meanMade

theorem meanMade_holds : Rows.MeanMadeSaid := meanMade.over
#print axioms meanMade_holds
end Go.Proofs.YtnojpepjloceoaaGreat

