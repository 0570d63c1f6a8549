/-
  For every three numbers riddlelaw12.TypesNumbers returns true and leaves what was there as it was: no condition of ours.
-/
import Derived.Test.YtdajpnlpcdnckaaLotP30
import Derived.Test.YtdajpnlpcdnckaaAwake12
import Derived.Test.YtdajpnlpcdnckaaOpenN
import Derived.Test.YtdajpnlpcdnckaaLow
import Derived.Deep.DeepCutAuto
import Derived.Laws.OwnMore
namespace Go.Proofs.Ytdajpnlpcdnckaa
open Go.ChangeShapes Go.WideShapes Go.ChangeAt Go.RowKit
set_option maxRecDepth 100000
namespace typesNumbers

/-- A list written down, as a row of one's own. -/
theorem wpList_litO {P : Program} {ops : Array Oper} {rest : List Oper} {op : Oper} {a : Act} {w : World} {Q : Exit → Act → World → Prop} (hw : Region.wanted op (yielded ops a.tmps) = true)
    (t : TypeId) (n : Nat) (ps : Array (Nat × Operand)) (ho : op.op = .buildSlice t n ps) (qs : Array (Nat × Value)) (hq : ps.map (fun (i, x) => (i, a.eval x)) = qs) (cs : List Value) (e : TypeId) (size : Nat) (hm : n ≤ maxLen) (hs : cs.length = n * size)
    (hr : ∀ W : World, (Instr.buildSlice t n qs).run P W = .ok (.slice (some ⟨W.heap.size, 0, none⟩) n n) (W.alloc (.cells cs.toArray e)))
    (h : ∀ V w', w.heap.size = V → VAt w' V e cs.toArray → w'.ownsRow w.heap.size e size (.slice (some ⟨V, 0, none⟩) n n) n cs → w.grownBy w' none → wpList P ops Q rest (a.put op.dst (.slice (some ⟨V, 0, none⟩) n n)) w') : wpList P ops Q (op :: rest) a w :=
  BigFrame.wpList_want hw fun _ hK => by
    unfold Oper.wp execOp
    have hr' := hr w
    rw [← hq] at hr'
    simp only [ho, Sem.run_bind, Sem.run_pure, Result.andThen_ok, hr']
    exact hK _ _ (h _ _ rfl (VAt.alloc w e cs.toArray) (World.ownsRow_lit w cs.toArray n (Nat.le_refl _) hm (by simpa using hs)) (World.grownBy_alloc _ _ _))
theorem lit_n3 (x y z : Ng) (W : World) : (Instr.buildSlice 22 3 #[(0, .agg x.cells.toArray), (1, .agg y.cells.toArray), (2, .agg z.cells.toArray)]).run Try.prog W = .ok (.slice (some ⟨W.heap.size, 0, none⟩) 3 3) (W.alloc (.cells (flatG [x, y, z]).toArray 40)) := by kernel_rfl

set_option maxRecDepth 100000 in
set_option maxHeartbeats 16000000 in
theorem walk (a b : Nat) (x2 : Int) (w : World) (ha : a ≤ 4294967295) (hb : b ≤ 4294967295) :
    Calls Try.prog 8 #[.int .u32 (a : Int), .int .u32 (b : Int), .int .i64 x2] w fun e w' => e = .returned (.bool true) ∧ w.grownBy w' none := by
  obtain ⟨i0, hi, hz0, hz1, hz2⟩ := info_parts info40
  have HI : Hid (Try.prog.info? 40 = some i0 ∧ i0.zero = some (.agg nd0.cells.toArray) ∧ i0.size = 24 ∧ i0.bytes = 72) := ⟨hi, hz0, hz1, hz2⟩
  clear hi hz0 hz1 hz2
  have CL := low_any x2
  obtain ⟨lo, hlo⟩ : ∃ lo, lowV x2 = lo := ⟨_, rfl⟩
  rw [hlo] at CL
  clear hlo
  obtain ⟨K, hK⟩ : ∃ K, 1 + lo % 10 = K := ⟨_, rfl⟩
  have hK1 : 1 ≤ K ∧ K ≤ 10 := by omega
  have HK1 : Hid (1 ≤ K ∧ K ≤ 10) := hK1
  have hKi : 1 + (lo : Int) % 10 = (K : Int) := by omega
  have hKw : IntKind.i64.wrap (1 + (lo : Int) % 10) = (K : Int) := na_wrap hK
  have HKK : Hid (1 ≤ (K : Int) ∧ (K : Int) ≤ 10) := ⟨by omega, by omega⟩
  have e1 := na_add a b
  have e2 := na_sub (a := a) hb
  have e3 := na_mul a b
  have e6 := na_and ha hb
  have e7 := na_or ha hb
  have e8 := na_xor ha hb
  have s1 : (a : Int) * 2 ^ min b 32 % 4294967296 = (arithG 9 a b : Int) := shift_true
  have s2 : (a : Int) / 2 ^ min b 32 = (arithG 10 a b : Int) := shift_false ha
  have HSS : Hid ((a : Int) * 2 ^ min b 32 % 4294967296 = (arithG 9 a b : Int) ∧ (a : Int) / 2 ^ min b 32 = (arithG 10 a b : Int)) := ⟨s1, s2⟩
  have HS1 : Hid (¬ b < 32 → arithG 9 a b = 0 ∧ arithG 10 a b = 0) := na_far
  have HV : Hid _ := na_list hK1 a b
  have HDV : Hid ((divG (K : Int) = true) ↔ K = 4 ∨ K = 5) := na_div
  have HQR : Hid (((a / b : Nat) : Int) % 4294967296 = ((a / b : Nat) : Int) ∧ ((a % b : Nat) : Int) % 4294967296 = ((a % b : Nat) : Int)) := ⟨na_fit (Nat.le_trans (Nat.div_le_self _ _) ha), na_fit (Nat.le_trans (Nat.mod_le _ _) ha)⟩
  have HAV : Hid (∀ k : Int, arithG k a b ≤ 4294967295) := fun k => arithG_le ha hb
  obtain ⟨vk, hvk⟩ : ∃ vk, arithG (K : Int) a b = vk := ⟨_, rfl⟩
  have HVK : Hid (arithG (K : Int) a b = vk ∧ vk ≤ 4294967295) := ⟨hvk, by rw [← hvk]; exact HAV.out _⟩
  rw [hvk] at HV
  clear hvk HAV s1 s2
  have HC1 : Hid (¬ (divG (K : Int) = true ∧ b = 0) → constG [nmN a, nmN b, akN K] = some vk ∧ constG [nmN a, nmN b, akN K, miN] = some (minusG vk) ∧ (checkG [lnN, nmN a, nmN b, akN K, rnN]).2 = 0) := fun hz => by
    have h1 := num_const HKK.out a b hz
    have h2 := num_minus HKK.out a b hz
    rw [HVK.out.1] at h1 h2
    exact ⟨h1, h2, num_check HKK.out a b hz⟩
  have HC2 : Hid (divG (K : Int) = true ∧ b = 0 → constG [nmN a, nmN b, akN K] = none ∧ checkG [lnN, nmN a, nmN b, akN K, rnN] = (3, 123)) := fun hz => by
    rw [hz.2]
    exact ⟨num_constz HKK.out a hz.1, num_checkz HKK.out a hz.1⟩
  generalize arithG 1 a b = v1 at *
  generalize arithG 2 a b = v2 at *
  generalize arithG 3 a b = v3 at *
  generalize arithG 6 a b = v6 at *
  generalize arithG 7 a b = v7 at *
  generalize arithG 8 a b = v8 at *
  generalize arithG 9 a b = v9 at *
  generalize arithG 10 a b = v10 at *
  obtain ⟨B32, hB32⟩ : ∃ B32 : Bool, decide ((b : Int) < 32) = B32 := ⟨_, rfl⟩
  have HB32 : Hid (decide ((b : Int) < 32) = B32) := hB32
  obtain ⟨BN, hBN⟩ : ∃ BN : Bool, ((b : Int) != 0) = BN := ⟨_, rfl⟩
  have HBN : Hid (((b : Int) != 0) = BN) := hBN
  have HNA : Hid (∀ z ∈ [nmN a, nmN b, akN K], z.n ≤ 4294967295) := fun z hz => by
    simp only [List.mem_cons, List.not_mem_nil, or_false] at hz
    rcases hz with rfl | rfl | rfl
    · exact ha
    · exact hb
    · exact Nat.zero_le _
  clear hK
  go_enter Try.func8, Try.ntmps8
  go_wp2_with fail
  refine (CL _).mono ?_
  rintro e w' ⟨rfl, rfl⟩
  clear CL
  have HE3 : Hid (((a : Int) + (b : Int)) % 4294967296 = (v1 : Int) ∧ ((a : Int) - (b : Int)) % 4294967296 = (v2 : Int) ∧ (a : Int) * (b : Int) % 4294967296 = (v3 : Int)) := ⟨e1, e2, e3⟩
  clear e1 e2 e3
  go_upto_if 27 with fail
  go_cut [8, 9, 27] from 28 to 33 (fun s8 s9 _ wx => s8 = .int .u32 (v9 : Int) ∧ s9 = .int .u32 (v10 : Int) ∧ wx = w)
  case first =>
    cases B32 with
    | true =>
      go_wp2
      go_meet
      exact ⟨by rw [HSS.out.1], by rw [HSS.out.2], rfl⟩
    | false =>
      obtain ⟨h9, h10⟩ := HS1.out (b_far HB32.out)
      have HZ9 : Hid (v9 = 0 ∧ v10 = 0) := ⟨h9, h10⟩
      clear h9 h10
      go_wp2
      go_meet
      exact ⟨by rw [HZ9.out.1]; rfl, by rw [HZ9.out.2]; rfl, rfl⟩
  case rest =>
  obtain ⟨rfl, rfl, hwx⟩ := hcut
  subst wc
  clear HSS HS1 HB32 hB32
  have V1 := VAt.alloc w 30 #[.int .u32 0, .int .u32 (((a : Int) + (b : Int)) % 4294967296), .int .u32 (((a : Int) - (b : Int)) % 4294967296), .int .u32 ((a : Int) * (b : Int) % 4294967296), .int .u32 0, .int .u32 0, .int .u32 (v6 : Int), .int .u32 (v7 : Int), .int .u32 (v8 : Int), .int .u32 (v9 : Int), .int .u32 (v10 : Int)]
  have K1 := World.grownBy_alloc w (.cells #[.int .u32 0, .int .u32 (((a : Int) + (b : Int)) % 4294967296), .int .u32 (((a : Int) - (b : Int)) % 4294967296), .int .u32 ((a : Int) * (b : Int) % 4294967296), .int .u32 0, .int .u32 0, .int .u32 (v6 : Int), .int .u32 (v7 : Int), .int .u32 (v8 : Int), .int .u32 (v9 : Int), .int .u32 (v10 : Int)] 30) none
  go_upto_if 56 with fail
  generalize w.alloc (.cells #[.int .u32 0, .int .u32 (((a : Int) + (b : Int)) % 4294967296), .int .u32 (((a : Int) - (b : Int)) % 4294967296), .int .u32 ((a : Int) * (b : Int) % 4294967296), .int .u32 0, .int .u32 0, .int .u32 (v6 : Int), .int .u32 (v7 : Int), .int .u32 (v8 : Int), .int .u32 (v9 : Int), .int .u32 (v10 : Int)] 30) = w1 at *
  obtain ⟨V, hV⟩ : ∃ V, w.heap.size = V := ⟨_, rfl⟩
  rw [hV] at V1 ⊢
  rw [HE3.out.1, HE3.out.2.1, HE3.out.2.2] at V1
  have HVG : Hid (w.heap.size ≤ V) := Nat.le_of_eq hV
  have HG1 : Hid (w.grownBy w1 none) := K1
  have HV1 : Hid (VAt w1 V 30 [uv 0, uv v1, uv v2, uv v3, uv 0, uv 0, uv v6, uv v7, uv v8, uv v9, uv v10].toArray) := V1
  have c4 : w1.cell? ⟨V, 4, none⟩ = some (.int .u32 0) := V1.cell 4
  have c5 : w1.cell? ⟨V, 5, none⟩ = some (.int .u32 0) := V1.cell 5
  have f4 := V1.free 4
  have f5 := V1.free 5
  clear K1 V1 hV e6 e7 e8 HE3
  go_cut [34] from 35 to 66 (fun _ wx => Hid ((wx.cell? ⟨V, K, none⟩ = some (.int .u32 (vk : Int)) ∨ (divG (K : Int) = true ∧ b = 0)) ∧ w.grownBy wx none))
  case first =>
    cases BN with
    | true =>
      obtain ⟨hb0, hb0i⟩ := b_pos HBN.out
      have q1' : (a : Int) / (b : Int) = ((a / b : Nat) : Int) := (Int.natCast_ediv a b).symm
      have q2' : (a : Int) % (b : Int) = ((a % b : Nat) : Int) := (Int.natCast_emod a b).symm
      have q1 := HQR.out.1
      have q2 := HQR.out.2
      obtain ⟨qn, hqn⟩ : ∃ qn, a / b = qn := ⟨_, rfl⟩
      obtain ⟨rn, hrn⟩ : ∃ rn, a % b = rn := ⟨_, rfl⟩
      rw [hqn] at q1 q1' HV
      rw [hrn] at q2 q2' HV
      have HFIN : Hid (((w1.setCell ⟨V, 4, none⟩ (.int .u32 (qn : Int))).setCell ⟨V, 5, none⟩ (.int .u32 (rn : Int))).cell? ⟨V, K, none⟩ = some (.int .u32 (vk : Int)) ∧ w.grownBy ((w1.setCell ⟨V, 4, none⟩ (.int .u32 (qn : Int))).setCell ⟨V, 5, none⟩ (.int .u32 (rn : Int))) none) := by
        refine ⟨?_, grown_setCell (grown_setCell HG1.out _ _ (.inr HVG.out)) _ _ (.inr HVG.out)⟩
        have V3 := (HV1.out.set 4 (uv qn)).set 5 (uv rn)
        have h3 := V3.cell K
        rw [read_true v1 v2 v3 v6 v7 v8 v9 v10 qn rn HK1.out, ← HV.out] at h3
        exact h3
      clear HV HC1 HC2 hqn hrn HQR
      go_wp2
      go_meet
      exact ⟨.inl HFIN.out.1, HFIN.out.2⟩
    | false =>
      have hb0 : b = 0 := b_zero HBN.out
      have HFIN : Hid (w1.cell? ⟨V, K, none⟩ = some (.int .u32 (vk : Int)) ∨ (divG (K : Int) = true ∧ b = 0)) := by
        by_cases h45 : K = 4 ∨ K = 5
        · exact .inr ⟨HDV.out.2 h45, hb0⟩
        · left
          have h3 := HV1.out.cell K
          rw [read_false v1 v2 v3 v6 v7 v8 v9 v10 (a / b) (a % b) HK1.out h45, ← HV.out] at h3
          exact h3
      clear HV HC1 HC2 hb0
      go_wp2
      go_meet
      exact ⟨HFIN.out, HG1.out⟩
  case rest =>
  obtain ⟨hcell, G2⟩ := hcut.out
  have HCE : Hid (wc.cell? ⟨V, K, none⟩ = some (.int .u32 (vk : Int)) ∨ (divG (K : Int) = true ∧ b = 0)) := hcell
  have HG2 : Hid (w.grownBy wc none) := G2
  clear hcell G2 hcut HBN hBN HVG HG1 HV1 c4 c5 f4 f5 HQR HV
  have HB1 : Hid (∀ W : World, (Instr.build 40 #[(0, .int .i64 1), (2, .int .u32 (a : Int))]).run Try.prog W = .ok (.agg (nmN a).cells.toArray) W) := fun W => by kernel_rfl
  have HB2 : Hid (∀ W : World, (Instr.build 40 #[(0, .int .i64 1), (2, .int .u32 (b : Int))]).run Try.prog W = .ok (.agg (nmN b).cells.toArray) W) := fun W => by kernel_rfl
  have HB3 : Hid (∀ W : World, (Instr.build 40 #[(0, .int .i64 4), (1, .int .i64 (K : Int))]).run Try.prog W = .ok (.agg (akN K).cells.toArray) W) := fun W => by kernel_rfl
  have HB4 : Hid (∀ W : World, (Instr.build 40 #[(0, .int .i64 2)]).run Try.prog W = .ok (.agg lnN.cells.toArray) W) := fun W => by kernel_rfl
  have HB5 : Hid (∀ W : World, (Instr.build 40 #[(0, .int .i64 6), (1, .int .i64 2)]).run Try.prog W = .ok (.agg rnN.cells.toArray) W) := fun W => by kernel_rfl
  have HB6 : Hid (∀ W : World, (Instr.build 40 #[(0, .int .i64 5)]).run Try.prog W = .ok (.agg miN.cells.toArray) W) := fun W => by kernel_rfl
  have HL3 : Hid _ := lit_n3 (nmN a) (nmN b) (akN K)
  have HL4 : Hid _ := lit_n1 lnN
  have HL5 : Hid _ := lit_n1 rnN
  have HL6 : Hid _ := lit_n1 miN
  have HF3 : Hid (flatG [nmN a, nmN b, akN K] ++ flatG [miN] = flatG [nmN a, nmN b, akN K, miN] ∧ flatG [lnN] ++ flatG [nmN a, nmN b, akN K] ++ flatG [rnN] = flatG [lnN, nmN a, nmN b, akN K, rnN]) := ⟨by rw [← flatG_append]; rfl, by rw [← flatG_append, ← flatG_append]; rfl⟩
  have HCT : Hid (∀ (a1 : Option Addr) (c1 : Nat) (W : World), CV W a1 (flatG [nmN a, nmN b, akN K]) → Calls Try.prog 15 #[.slice a1 3 c1] W fun e' w' => e' = .returned (constR (constG [nmN a, nmN b, akN K])) ∧ W.grownBy w' none) := fun a1 c1 W CW => const12_any a1 c1 [nmN a, nmN b, akN K] W CW (by simp) HNA.out
  have HCM : Hid (∀ (a1 : Option Addr) (c1 : Nat) (W : World), CV W a1 (flatG [nmN a, nmN b, akN K] ++ flatG [miN]) → Calls Try.prog 15 #[.slice a1 4 c1] W fun e' w' => e' = .returned (constR (constG [nmN a, nmN b, akN K, miN])) ∧ W.grownBy w' none) := fun a1 c1 W CW => const12_any a1 c1 [nmN a, nmN b, akN K, miN] W (by rw [← HF3.out.1]; exact CW) (by simp) (fun z hz => by
    rcases List.mem_append.1 (show z ∈ [nmN a, nmN b, akN K] ++ [miN] from hz) with h | h
    · exact HNA.out z h
    · rw [List.mem_singleton.1 h]; exact Nat.zero_le _)
  have HCL1 : Hid (∀ (a1 : Option Addr) (c1 : Nat) (W : World), CV W a1 (flatG [lnN]) → Calls Try.prog 15 #[.slice a1 1 c1] W fun e' w' => e' = .returned (.tuple #[.int .u32 0, .bool false]) ∧ W.grownBy w' none) := fun a1 c1 W CW => by
    have := const12_any a1 c1 [lnN] W CW (by simp) (by simp [lnN])
    rw [len_const] at this
    exact this
  obtain ⟨ck1, ck2, hck⟩ : ∃ c d, checkG [lnN, nmN a, nmN b, akN K, rnN] = (c, d) := ⟨_, _, rfl⟩
  have HCU : Hid (∀ (a1 : Option Addr) (c1 : Nat) (W : World), CV W a1 (flatG [lnN] ++ flatG [nmN a, nmN b, akN K] ++ flatG [rnN]) → Calls Try.prog 11 #[.slice a1 5 c1] W fun e' w' => e' = .returned (.tuple #[.int .i64 (ck1 : Int), .int .i64 ck2]) ∧ W.grownBy w' none) := fun a1 c1 W CW => by
    have := check12_any a1 c1 [lnN, nmN a, nmN b, akN K, rnN] W (by rw [← HF3.out.2]; exact CW) (by simp) (fun z hz => by
      rcases List.mem_append.1 (show z ∈ [lnN] ++ [nmN a, nmN b, akN K] ++ [rnN] from hz) with h | h
      · rcases List.mem_append.1 h with h | h
        · rw [List.mem_singleton.1 h]; exact Nat.zero_le _
        · exact HNA.out z h
      · rw [List.mem_singleton.1 h]; exact Nat.zero_le _)
    rw [checkR, hck] at this
    exact this
  rw [hck] at HC1 HC2
  have HNEG : Hid ((-(vk : Int)) % 4294967296 = (minusG vk : Int)) := na_neg HVK.out.2
  clear hck HF3 HNA
  obtain ⟨X1, hX1⟩ : ∃ X, (nmN a).cells.toArray = X := ⟨_, rfl⟩
  obtain ⟨X2, hX2⟩ : ∃ X, (nmN b).cells.toArray = X := ⟨_, rfl⟩
  obtain ⟨X3, hX3⟩ : ∃ X, (akN K).cells.toArray = X := ⟨_, rfl⟩
  obtain ⟨X4, hX4⟩ : ∃ X, lnN.cells.toArray = X := ⟨_, rfl⟩
  obtain ⟨X5, hX5⟩ : ∃ X, rnN.cells.toArray = X := ⟨_, rfl⟩
  obtain ⟨X6, hX6⟩ : ∃ X, miN.cells.toArray = X := ⟨_, rfl⟩
  rw [hX1] at HB1 HL3
  rw [hX2] at HB2 HL3
  rw [hX3] at HB3 HL3
  rw [hX4] at HB4 HL4
  rw [hX5] at HB5 HL5
  rw [hX6] at HB6 HL6
  clear hX1 hX2 hX3 hX4 hX5 hX6 ha hb hK1 hKi hKw
  have hsp : (divG (K : Int) = true ∧ b = 0) ∧ (((b : Int) == 0) = true ∧ (((K : Int) == 4) = true ∨ (((K : Int) == 4) = false ∧ ((K : Int) == 5) = true))) ∨ (¬ (divG (K : Int) = true ∧ b = 0)) ∧ (((b : Int) == 0) = false ∨ (((b : Int) == 0) = true ∧ ((K : Int) == 4) = false ∧ ((K : Int) == 5) = false)) := by
    by_cases hb0 : b = 0
    · have e0 : ((b : Int) == 0) = true := by rw [hb0]; rfl
      by_cases h4 : K = 4
      · exact .inl ⟨⟨HDV.out.2 (.inl h4), hb0⟩, e0, .inl (by rw [h4]; rfl)⟩
      · have e4 : ((K : Int) == 4) = false := by rw [beq_eq_false_iff_ne]; omega
        by_cases h5 : K = 5
        · exact .inl ⟨⟨HDV.out.2 (.inr h5), hb0⟩, e0, .inr ⟨e4, by rw [h5]; rfl⟩⟩
        · exact .inr ⟨fun h => (HDV.out.1 h.1).elim h4 h5, .inr ⟨e0, e4, by rw [beq_eq_false_iff_ne]; omega⟩⟩
    · exact .inr ⟨fun h => hb0 h.2, .inl (by rw [beq_eq_false_iff_ne]; omega)⟩
  rcases hsp with ⟨hz, e0, e45⟩ | ⟨hz, e45⟩
  · obtain ⟨hcc, hkk⟩ := HC2.out hz
    simp only [Prod.mk.injEq] at hkk
    obtain ⟨rfl, rfl⟩ := hkk
    rw [hcc] at HCT
    simp only [constR] at HCT
    clear hz hcc HC1 HC2 HCE HDV HVK HKK HCM HCL1
    rcases e45 with e4 | ⟨e4, e5⟩
    all_goals
      go_wp2_with (first | refine wpList_bld rfl 40 #[(0, .const (.int .i64 1)), (2, .tmp 67)] rfl _ (by kernel_rfl) (.agg X1) HB1.out ?_ | refine wpList_bld rfl 40 #[(0, .const (.int .i64 1)), (2, .tmp 69)] rfl _ (by kernel_rfl) (.agg X2) HB2.out ?_ | refine wpList_bld rfl 40 #[(0, .const (.int .i64 4)), (1, .tmp 71)] rfl _ (by kernel_rfl) (.agg X3) HB3.out ?_ | (refine wpList_lit (by rfl) 22 3 _ rfl _ (by kernel_rfl) (flatG [nmN a, nmN b, akN K]) 40 HL3.out ?_; intro V3 w3 D3 K3))
      have HD3 : Hid (CV w3 (some ⟨V3, 0, none⟩) (flatG [nmN a, nmN b, akN K])) := D3
      have HK3 : Hid (wc.grownBy w3 none) := K3
      have CA := gcopy_any (some ⟨V3, 0, none⟩) 3 [nmN a, nmN b, akN K] w3 D3 (by simp) (by simp)
      clear D3 K3
      refine CA.mono ?_
      rintro e4' w4 ⟨v4, rfl, O4, K4⟩
      obtain ⟨a4, c4, rfl, D4, -⟩ := cv_of_row O4
      have CT := HCT.out a4 c4 w4 D4
      clear CA O4 D4
      go_wp2_with fail
      refine CT.mono ?_
      rintro e5' w5 ⟨rfl, K5⟩
      have J5 := grown_trans K4 K5
      have HJ5 : Hid (w3.grownBy w5 none) := J5
      have HG5 : Hid (w.grownBy w5 none) := grown_trans (grown_trans HG2.out HK3.out) J5
      clear CT K4 K5 J5
      go_wp2_with (first | refine wpList_bld rfl 40 #[(0, .const (.int .i64 2))] rfl _ (by kernel_rfl) (.agg X4) HB4.out ?_ | refine wpList_bld rfl 40 #[(0, .const (.int .i64 6)), (1, .const (.int .i64 2))] rfl _ (by kernel_rfl) (.agg X5) HB5.out ?_ | (refine wpList_litO (by rfl) 22 1 #[(0, .tmp 90)] rfl _ (by kernel_rfl) (flatG [lnN]) 40 24 (by decide) rfl HL4.out ?_; intro V6 w6 hV6 A6 O6 K6) | (at_builtin; refine wpList_append_cv rfl (.tmp 91) (.tmp 92) 22 rfl 40 i0 _ 24 72 Try.underlying22 HI.out.1 HI.out.2.1 HI.out.2.2.1 HI.out.2.2.2 rfl (by decide) w5.heap.size _ 1 (flatG [lnN]) rfl O6 (some ⟨V3, 0, none⟩) 3 3 (flatG [nmN a, nmN b, akN K]) rfl rfl (by simp) (HD3.out.keptNone (grown_trans HJ5.out K6)) (flatG_one _) (by decide) (by decide) K6.size ?_; intro v7 w7 O7 K7; have G7 : w.grownBy w7 none := grown_trans_new (grown_trans HG5.out K6) K7 (fun x hx => Nat.le_trans HG5.out.size (O6.lt x hx).1); have J7 : w3.grownBy w7 none := grown_trans_new (grown_trans HJ5.out K6) K7 (fun x hx => Nat.le_trans HJ5.out.size (O6.lt x hx).1)) | (refine wpList_lit (by rfl) 22 1 #[(0, .tmp 95)] rfl _ (by kernel_rfl) (flatG [rnN]) 40 HL5.out ?_; intro V8 w8 D8 K8) | (at_builtin; refine wpList_append_cv rfl (.tmp 94) (.tmp 96) 22 rfl 40 i0 _ 24 72 Try.underlying22 HI.out.1 HI.out.2.1 HI.out.2.2.1 HI.out.2.2.2 rfl (by decide) w5.heap.size _ 4 (flatG [lnN] ++ flatG [nmN a, nmN b, akN K]) rfl (owns_keptNone O7 K8) (some ⟨V8, 0, none⟩) 1 1 (flatG [rnN]) rfl rfl (by simp) D8 (flatG_one _) (by decide) (by decide) (Nat.le_trans K6.size (Nat.le_trans K7.size K8.size)) ?_; intro vd wd Od Kd; have Gd : w.grownBy wd none := grown_trans_new (grown_trans G7 K8) Kd (fun x hx => Nat.le_trans HG5.out.size (O7.lt x hx).1); have Jd : w3.grownBy wd none := grown_trans_new (grown_trans J7 K8) Kd (fun x hx => Nat.le_trans HJ5.out.size (O7.lt x hx).1); obtain ⟨ad, cd, rfl, Dd, -⟩ := cv_of_row Od; clear A6 O6 K6 O7 K7 D8 K8 Od Kd G7 J7))
      refine (HCU.out _ _ _ Dd).mono ?_
      rintro ee wf ⟨rfl, Kf⟩
      have Gf := grown_trans Gd Kf
      have Jf := grown_trans Jd Kf
      clear Dd Kf Gd Jd
      go_wp2_with fail
      clear Jf HD3 HK3
      refine (awake12_any _).mono ?_
      rintro e9 w9 ⟨rfl, K9⟩
      go_wp2
      go_ret
      exact ⟨rfl, grown_trans Gf K9⟩
  · obtain ⟨hcc, hcm, hkk⟩ := HC1.out hz
    have hkk' : ck2 = 0 := hkk
    subst hkk'
    rw [hcc] at HCT
    rw [hcm] at HCM
    simp only [constR] at HCT HCM
    have HCE2 : Hid (wc.cell? ⟨V, K, none⟩ = some (.int .u32 (vk : Int))) := HCE.out.elim id (fun h => absurd h hz)
    have hK11 : (K : Int) < 11 := by have := HKK.out; omega
    have zK : (0 : Int) ≤ (K : Int) := by omega
    have HLT4 : Hid (3 + 1 ≤ maxLen ∧ (3 + 1) * 72 ≤ 140737488355328) := ⟨by decide, by decide⟩
    clear hz hcc hcm hkk HC1 HC2 HCE HDV HVK HKK
    rcases e45 with e4 | ⟨e4, e5, e6⟩
    all_goals
      go_wp2_with (first | refine wpList_bld rfl 40 #[(0, .const (.int .i64 1)), (2, .tmp 67)] rfl _ (by kernel_rfl) (.agg X1) HB1.out ?_ | refine wpList_bld rfl 40 #[(0, .const (.int .i64 1)), (2, .tmp 69)] rfl _ (by kernel_rfl) (.agg X2) HB2.out ?_ | refine wpList_bld rfl 40 #[(0, .const (.int .i64 4)), (1, .tmp 71)] rfl _ (by kernel_rfl) (.agg X3) HB3.out ?_ | (refine wpList_lit (by rfl) 22 3 _ rfl _ (by kernel_rfl) (flatG [nmN a, nmN b, akN K]) 40 HL3.out ?_; intro V3 w3 D3 K3))
      have HD3 : Hid (CV w3 (some ⟨V3, 0, none⟩) (flatG [nmN a, nmN b, akN K])) := D3
      have HK3 : Hid (wc.grownBy w3 none) := K3
      have CA := gcopy_any (some ⟨V3, 0, none⟩) 3 [nmN a, nmN b, akN K] w3 D3 (by simp) (by simp)
      clear D3 K3
      refine CA.mono ?_
      rintro e4' w4 ⟨v4, rfl, O4, K4⟩
      obtain ⟨a4, c4, rfl, D4, -⟩ := cv_of_row O4
      have CT := HCT.out a4 c4 w4 D4
      clear CA O4 D4
      go_wp2_with fail
      refine CT.mono ?_
      rintro e5' w5 ⟨rfl, K5⟩
      have J5 := grown_trans K4 K5
      have HJ5 : Hid (w3.grownBy w5 none) := J5
      have HG5 : Hid (w.grownBy w5 none) := grown_trans (grown_trans HG2.out HK3.out) J5
      clear CT K4 K5 J5
      go_wp2_with (first | refine wpList_bld rfl 40 #[(0, .const (.int .i64 2))] rfl _ (by kernel_rfl) (.agg X4) HB4.out ?_ | refine wpList_bld rfl 40 #[(0, .const (.int .i64 6)), (1, .const (.int .i64 2))] rfl _ (by kernel_rfl) (.agg X5) HB5.out ?_ | (refine wpList_litO (by rfl) 22 1 #[(0, .tmp 90)] rfl _ (by kernel_rfl) (flatG [lnN]) 40 24 (by decide) rfl HL4.out ?_; intro V6 w6 hV6 A6 O6 K6) | (at_builtin; refine wpList_append_cv rfl (.tmp 91) (.tmp 92) 22 rfl 40 i0 _ 24 72 Try.underlying22 HI.out.1 HI.out.2.1 HI.out.2.2.1 HI.out.2.2.2 rfl (by decide) w5.heap.size _ 1 (flatG [lnN]) rfl O6 (some ⟨V3, 0, none⟩) 3 3 (flatG [nmN a, nmN b, akN K]) rfl rfl (by simp) (HD3.out.keptNone (grown_trans HJ5.out K6)) (flatG_one _) (by decide) (by decide) K6.size ?_; intro v7 w7 O7 K7; have G7 : w.grownBy w7 none := grown_trans_new (grown_trans HG5.out K6) K7 (fun x hx => Nat.le_trans HG5.out.size (O6.lt x hx).1); have J7 : w3.grownBy w7 none := grown_trans_new (grown_trans HJ5.out K6) K7 (fun x hx => Nat.le_trans HJ5.out.size (O6.lt x hx).1)) | (refine wpList_lit (by rfl) 22 1 #[(0, .tmp 95)] rfl _ (by kernel_rfl) (flatG [rnN]) 40 HL5.out ?_; intro V8 w8 D8 K8) | (at_builtin; refine wpList_append_cv rfl (.tmp 94) (.tmp 96) 22 rfl 40 i0 _ 24 72 Try.underlying22 HI.out.1 HI.out.2.1 HI.out.2.2.1 HI.out.2.2.2 rfl (by decide) w5.heap.size _ 4 (flatG [lnN] ++ flatG [nmN a, nmN b, akN K]) rfl (owns_keptNone O7 K8) (some ⟨V8, 0, none⟩) 1 1 (flatG [rnN]) rfl rfl (by simp) D8 (flatG_one _) (by decide) (by decide) (Nat.le_trans K6.size (Nat.le_trans K7.size K8.size)) ?_; intro vd wd Od Kd; have Gd : w.grownBy wd none := grown_trans_new (grown_trans G7 K8) Kd (fun x hx => Nat.le_trans HG5.out.size (O7.lt x hx).1); have Jd : w3.grownBy wd none := grown_trans_new (grown_trans J7 K8) Kd (fun x hx => Nat.le_trans HJ5.out.size (O7.lt x hx).1); obtain ⟨ad, cd, rfl, Dd, -⟩ := cv_of_row Od; clear A6 O6 K6 O7 K7 D8 K8 Od Kd G7 J7))
      refine (HCU.out _ _ _ Dd).mono ?_
      rintro ee wf ⟨rfl, Kf⟩
      have Gf := grown_trans Gd Kf
      have Jf := grown_trans Jd Kf
      clear Dd Kf Gd Jd
      go_wp2_with fail
      have CA2 := gcopy_any (some ⟨V3, 0, none⟩) 3 [nmN a, nmN b, akN K] wf (HD3.out.keptNone Jf) (by simp) (by simp)
      have HGf : Hid (w.grownBy wf none) := Gf
      have HJf : Hid (wc.grownBy wf none) := grown_trans HK3.out Jf
      clear Gf Jf
      refine CA2.mono ?_
      rintro eg wg ⟨vg, rfl, Og, Kg⟩
      clear CA2
      go_wp2_with (first | refine wpList_bld rfl 40 #[(0, .const (.int .i64 5))] rfl _ (by kernel_rfl) (.agg X6) HB6.out ?_ | (refine wpList_lit (by rfl) 22 1 _ rfl _ (by kernel_rfl) (flatG [miN]) 40 HL6.out ?_; intro Vh wh Ch Kh) | (at_builtin; refine wpList_append_cv rfl (.tmp 123) (.tmp 125) 22 rfl 40 i0 _ 24 72 Try.underlying22 HI.out.1 HI.out.2.1 HI.out.2.2.1 HI.out.2.2.2 rfl (by decide) wf.heap.size _ 3 (flatG [nmN a, nmN b, akN K]) rfl (owns_keptNone Og Kh) (some ⟨Vh, 0, none⟩) 1 1 (flatG [miN]) rfl rfl (by simp) Ch (flatG_one _) HLT4.out.1 HLT4.out.2 (Nat.le_trans Kg.size Kh.size) ?_; intro vi wi Oi Ki; have Gi : w.grownBy wi none := grown_trans_new (grown_trans (grown_trans HGf.out Kg) Kh) Ki (fun x hx => Nat.le_trans HGf.out.size (Og.lt x hx).1); have Ji : wc.grownBy wi none := grown_trans_new (grown_trans (grown_trans HJf.out Kg) Kh) Ki (fun x hx => Nat.le_trans HJf.out.size (Og.lt x hx).1); obtain ⟨ai, ci, rfl, Di, -⟩ := cv_of_row Oi; clear Og Kg Ch Kh Oi Ki))
      refine (HCM.out _ _ _ Di).mono ?_
      rintro ej wj ⟨rfl, Kj⟩
      have Gj := grown_trans Gi Kj
      have Jj := grown_trans Ji Kj
      clear Di Kj Gi Ji
      go_wp2_with (first | refine wpList_bld rfl 40 #[(0, .const (.int .i64 2))] rfl _ (by kernel_rfl) (.agg X4) HB4.out ?_ | (refine wpList_lit (by rfl) 22 1 _ rfl _ (by kernel_rfl) (flatG [lnN]) 40 HL4.out ?_; intro Vk wk Ck Kk))
      refine (HCL1.out _ _ _ Ck).mono ?_
      rintro el wl ⟨rfl, Kl⟩
      have Gl := grown_trans (grown_trans Gj Kk) Kl
      have Jl := grown_trans (grown_trans Jj Kk) Kl
      have cK := Jl.cell HCE2.out (by simp)
      have hneg := HNEG.out
      obtain ⟨mg, hmg⟩ : ∃ mg, minusG vk = mg := ⟨_, rfl⟩
      rw [hmg] at hneg ⊢
      have eqv : ((vk : Int) == (vk : Int)) = true := by simp
      have eqm : ((mg : Int) == (mg : Int)) = true := by simp
      clear Ck Kk Kl Gj Jj Jl hmg
      go_wp2_with fail
      refine (awake12_any _).mono ?_
      rintro e9 w9 ⟨rfl, K9⟩
      go_wp2
      go_ret
      exact ⟨rfl, grown_trans Gl K9⟩

set_option maxRecDepth 100000 in
theorem lifted (os : Os) (started : os.Started) (H : Type) (enc : TypeId × Value → H) :
    ReturnsInHanded {} Try.checked os 8 .any (Rows.typesNumbersSpec.pre6 enc Try.prog Try.f8 Rows.typesNumbersRow.domain false) (Rows.typesNumbersSpec.post enc Try.prog Try.f8 false true false false) := by
  refine returnsInHanded_of_change_sized (C := Try.checked) own started (by kernel_rfl) Try.func8
    (ChangeSpec.witness6 (enc := enc) (C := Try.checked) false ⟨#[], #[.int .u32 0, .int .u32 0, .int .i64 0], []⟩ 8 (by kernel_rfl) (by kernel_rfl) (by kernel_rfl) (by kernel_rfl)) ?_
  intro W base args ds gs before hval0 hW hcnd hsz0 _
  have hsz : (DataW.weightsEach Try.prog (Try.f8.params.toList ++ Rows.typesNumbersSpec.plain.varTypes Try.prog) (ds ++ gs)).all (· ≤ reachBytes) = true := hsz0
  have hval : ∀ (j : Nat) t v, Try.f8.params[j]? = some t → args[j]? = some v → Value.okWide Try.prog W .any base t v := hval0
  have hW' := hW
  obtain ⟨p, q, hA0, hV, rfl, hfz, hnd⟩ := hW
  have hA : DataW.TrodAll enc Try.prog W 0 (fun _ => true) true Try.f8.params.toList args.toList ds p := hA0
  rw [Try.params8] at hA hval hsz
  obtain ⟨v0, vs0, d0, ds0, p0, q0, hargs, rfl, rfl, h0, r0⟩ := trodAll_cons hA
  obtain ⟨v1, vs1, d1, ds1, p1, q1, rfl, rfl, rfl, h1, r1⟩ := trodAll_cons r0
  obtain ⟨v2, vs2, d2, ds2, p2, q2, rfl, rfl, rfl, h2, r2⟩ := trodAll_cons r1
  obtain ⟨rfl, rfl, rfl⟩ := trodAll_nil r2
  obtain rfl : args = #[v0, v1, v2] := by cases args; simp_all
  obtain ⟨rfl, rfl⟩ := trodVars_none hV
  obtain ⟨y0, rfl, rfl, rfl, w0⟩ := open_int Try.underlying30 (hval 0 30 v0 rfl rfl) h0
  have bd0 := bounds_u32 w0
  obtain ⟨x0, rfl⟩ := Int.eq_ofNat_of_zero_le bd0.1
  have hv0 : x0 ≤ 4294967295 := by omega
  obtain ⟨y1, rfl, rfl, rfl, w1⟩ := open_int Try.underlying30 (hval 1 30 v1 rfl rfl) h1
  have bd1 := bounds_u32 w1
  obtain ⟨x1, rfl⟩ := Int.eq_ofNat_of_zero_le bd1.1
  have hv1 : x1 ≤ 4294967295 := by omega
  obtain ⟨x2, rfl, rfl, rfl, w2⟩ := open_int Try.underlying3 (hval 2 3 v2 rfl rfl) h2
  clear hA0 hval0
  refine (walk x0 x1 x2 W hv0 hv1).mono fun e W' ⟨he, hg⟩ => ?_
  subst he
  have bel : Below W.heap.size W W' := (Below.refl _ _).grown hg (Nat.le_refl _) (by simp)
  exact ⟨_, rfl, _, _, _, [], _, [], hW', trodAll_mk1 (shut_bool Try.underlying4 _), (trodAll_cons_mk (shut_int Try.underlying30 w0) (trodAll_cons_mk (shut_int Try.underlying30 w1) (trodAll_cons_mk (shut_int Try.underlying3 w2) trodAll_mk0))), rfl, bel.frame _, fun h => by cases h⟩

theorem over : Rows.TypesNumbersSaid :=
  OpenClaim.holds_of_wide 8 Try.f8 rfl rfl rfl rfl rfl rfl rfl ⟨rfl, rfl, rfl, rfl, rfl⟩ rfl rfl rfl rfl rfl (by kernel_rfl) Try.func8 (by kernel_rfl)
    (of_decide_eq_true (by kernel_rfl)) (by unfold Func.isWrapper; first | (rw [if_pos (by decide +kernel)]; kernel_rfl) | (rw [if_neg (by decide +kernel)]; exact ⟨rfl, rfl⟩))
    (fun os started H enc _ => lifted os started H enc)

end typesNumbers

theorem typesNumbers_holds : Rows.TypesNumbersSaid := typesNumbers.over
#print axioms typesNumbers_holds

end Go.Proofs.Ytdajpnlpcdnckaa
