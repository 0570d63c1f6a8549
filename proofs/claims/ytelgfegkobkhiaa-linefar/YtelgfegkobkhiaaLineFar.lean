/-
  For all numbers and every list of bytes riddlelaw18.LineFar returns true and leaves what was there as it was: no condition of ours.
-/
import Derived.Test.YtelgfegkobkhiaaLnJ
import Derived.Test.YtelgfegkobkhiaaLotP44
import Derived.Test.YtelgfegkobkhiaaLotP49
namespace Go.Proofs.Ytelgfegkobkhiaa
open Go.ChangeShapes Go.WideShapes Go.ChangeAt Go.RowKit
set_option maxRecDepth 100000
namespace lineFar

def addI (k : Nat) : In := ⟨4, 0, 0, UInt32.ofNat k⟩
def subI (k : Nat) : In := ⟨20, 0, 0, UInt32.ofNat k⟩
def b0 : Bk := ⟨[⟨128, 0, 0, 0⟩], 3, ⟨37, 0, 0, 3⟩, 2, 1⟩
def bR (c : List In) : Bk := ⟨c, 1, ⟨22, 0, 0, 0⟩, 0, 0⟩
def gF (n m k : Nat) : List Bk := [b0, bR (List.replicate n (addI k)), bR (List.replicate m (subI k))]

theorem straight_rep (n : Nat) (x : In) (h : plainI x = true) : straightB (List.replicate n x) = true := by
  rw [straightB, List.all_eq_true]
  intro y hy
  rw [List.eq_of_mem_replicate hy]
  exact h
theorem plain_of {c : UInt16} {k : UInt32} (h5 : (classV c.toNat == 5) = false) (h6 : (classV c.toNat == 6) = false) (hk : knownB c.toNat = true) (hm : memB c.toNat = false) (hd : divB c.toNat = false) (hs : shfB c.toNat = false) : plainI ⟨c, 0, 0, k⟩ = true := by
  have hl : leavesB ⟨c, 0, 0, k⟩ = false := by
    show (classV c.toNat == 5 || classV c.toNat == 6) = false
    rw [h5, h6]
    rfl
  have hf : faultV c.toNat k.toNat = 0 := by
    rw [faultV, if_neg (by rw [hk]; simp), hm, hd, hs]
    simp
  show (!leavesB ⟨c, 0, 0, k⟩ && faultV c.toNat k.toNat == 0) = true
  rw [hl, hf]
  rfl
theorem ends_R (c : List In) : gendsB (bR c) = true := by
  rw [gendsB, if_pos (show (bR c).en = 1 from rfl)]
  show ((classV ((22 : UInt16).toNat : Int) == 6 && inEq ⟨22, 0, 0, 0⟩ (bareV ⟨22, 0, 0, 0⟩)) && ((0 : Int) == 0 && (0 : Int) == 0)) = true
  decide
theorem leads_R (c : List In) (i n : Nat) : leadsB (bR c) i n = true := by
  have h2 : ¬ (bR c).en = 2 := fun h => by have : (1 : Int) = 2 := h; omega
  have h3 : ¬ (bR c).en = 3 := fun h => by have : (1 : Int) = 3 := h; omega
  rw [leadsB, if_neg h2, if_neg h3]
theorem taken_F (n m k : Nat) (hn : n < 2000) (hm : m < 2000) : TakenG (gF n m k) := by
  refine ⟨by simp [gF], by simp [gF], fun j hj => ?_, ?_⟩
  · have hj3 : j < 3 := hj
    rcases (by omega : j = 0 ∨ j = 1 ∨ j = 2) with rfl | rfl | rfl
    · show straightB b0.code = true ∧ gendsB b0 = true ∧ leadsB b0 0 3 = true
      exact ⟨by decide, by decide, by decide⟩
    · exact ⟨straight_rep n _ (plain_of (by decide) (by decide) (by decide) (by decide) (by decide) (by decide)), ends_R _, leads_R _ _ _⟩
    · exact ⟨straight_rep m _ (plain_of (by decide) (by decide) (by decide) (by decide) (by decide) (by decide)), ends_R _, leads_R _ _ _⟩
  · simp [codeLen, gF, b0, bR]
    omega
theorem meas_F (n m k : Nat) (hn : n < 2000) (hm : m < 2000) : countG measE (gF n m k) ≤ 4096 := by
  simp [countG, gF, b0, bR, measE]
  omega
theorem lin_F (n m k : Nat) (hn : n < 2000) (hm : m < 2000) : linE (gF n m k) = 0 ∧ ∀ pk : List UInt8, pk.length ≤ 65536 → runE (linG (gF n m k)) pk = 0 ∧ runGE (gF n m k) pk = 0 ∧ SimR (runV (linG (gF n m k)) pk) (runG (gF n m k) pk) := by
  have T := taken_F n m k hn hm
  have hM := meas_F n m k hn hm
  have hG : (gckG (gF n m k)).2 = 0 := by rw [check_of T]
  have e : linE (gF n m k) = 0 := by rw [linE, if_pos hG, if_neg (by omega)]
  refine ⟨e, fun pk hp => ?_⟩
  have := line_runs hG hM (pk := pk) hp
  rw [show linG (gF n m k) = progG (gF n m k) by rw [linG, if_pos e]]
  exact this

theorem lit_three (x y z : Bv) (W : World) : (Instr.buildSlice 22 3 #[(0, .agg x.cells.toArray), (1, .agg y.cells.toArray), (2, .agg z.cells.toArray)]).run Try.prog W = .ok (.slice (some ⟨W.heap.size, 0, none⟩) 3 3) (W.alloc (.cells (flatB [x, y, z]).toArray 47)) := by kernel_rfl

abbrev blA (v : Value) : Array Value := #[v, .int .i64 1, .int .u16 22, .int .u8 0, .int .u8 0, .int .u32 0, .int .i64 0, .int .i64 0]

theorem ins_ne_b : (45 : Nat) ≠ 47 := by decide
/-- One instruction more in a block's Code. -/
theorem grow_one {w w2 w3 : World} {A B base n : Nat} {v v' u : Value} {x : In} (V : VAt w A 47 (blA v)) (U : VAt w B 47 (blA u)) (hAB : A ≠ B) (O : IOwns w base v (List.replicate n x)) (hw : w.grownBy w2 none) (O3 : w3.ownsRow base 45 4 v' (n + 1) (flat (List.replicate n x) ++ x.cells)) (K : w2.grownBy w3 v.ownBlock) :
    VAt (w3.setCell ⟨A, 0, none⟩ v') A 47 (blA v') ∧ VAt (w3.setCell ⟨A, 0, none⟩ v') B 47 (blA u) ∧ IOwns (w3.setCell ⟨A, 0, none⟩ v') base v' (List.replicate (n + 1) x) := by
  have O2 := owns_keptNone O hw
  have V2 := V.kept hw
  have U2 := U.kept hw
  have V3 := V2.grown K (own_vat O2 V2 ins_ne_b)
  have U3 := U2.grown K (own_vat O2 U2 ins_ne_b)
  have O4 : IOwns w3 base v' (List.replicate (n + 1) x) := by
    show w3.ownsRow base _ 4 v' (List.replicate (n + 1) x).length (flat (List.replicate (n + 1) x))
    rw [List.length_replicate, List.replicate_succ', flat_append, flat_cons, flat_nil, List.append_nil]
    exact O3
  have G : w3.grownBy (w3.setCell ⟨A, 0, none⟩ v') (some A) := grown_setCell (World.grownBy.refl _ _) _ _ (.inl rfl)
  exact ⟨V3.set 0 v', U3.setOther (k := A) (i := 0) v' (fun e => hAB e.symm), own_kept O4 G (own_vat O4 V3 ins_ne_b)⟩

theorem iok {w : World} {base c : Nat} {a : Option Addr} {L : List In} (O : IOwns w base (.slice a L.length c) L) : BOk w ⟨bR L, a, c⟩ := by
  obtain ⟨y1, y2, y3, y4, y5, -, y6, -⟩ := cv_of_row O
  injection y3 with e1 e2 e3
  subst e1 e3
  exact ⟨y4, y5, y6⟩

set_option maxHeartbeats 8000000 in
theorem walk (x0 x1 : Int) (k : Nat) (b : Option Addr) (cb : Nat) (pk : List UInt8) (w : World) (hk : k ≤ 4294967295) (hb : Cells w b pk) (_hd0 : b = none → cb = 0) (_hpm : pk.length ≤ 140737488351232) :
    Calls Try.prog 5 #[.int .i64 x0, .int .i64 x1, .int .u32 (k : Int), .slice b pk.length cb] w fun e w' => e = .returned (.bool true) ∧ w.grownBy w' none := by
  obtain ⟨i0, hi, hz0, hz1, hz2⟩ := info_insn18
  have HP : Hid (Cells w b pk) := hb
  have hku : ((UInt32.ofNat k).toNat : Int) = (k : Int) := by rw [UInt32.toNat_ofNat']; omega
  have CA : Hid ((addI k).cells = [.int .u16 4, .int .u8 0, .int .u8 0, .int .u32 (k : Int)]) := by
    show [_, _, _, _] = _
    rw [show ((addI k).k.toNat : Int) = (k : Int) from hku]
    rfl
  have CS : Hid ((subI k).cells = [.int .u16 20, .int .u8 0, .int .u8 0, .int .u32 (k : Int)]) := by
    show [_, _, _, _] = _
    rw [show ((subI k).k.toNat : Int) = (k : Int) from hku]
    rfl
  have hl0 := lowV_lt x0
  have hl1 := lowV_lt x1
  obtain ⟨n, hn⟩ : ∃ n, lowV x0 % 2000 = n := ⟨_, rfl⟩
  obtain ⟨m, hm⟩ : ∃ m, lowV x1 % 2000 = m := ⟨_, rfl⟩
  have hn2 : n < 2000 := by omega
  have hm2 : m < 2000 := by omega
  have HF : Hid (linE (gF n m k) = 0 ∧ ∀ pk : List UInt8, pk.length ≤ 65536 → runE (linG (gF n m k)) pk = 0 ∧ runGE (gF n m k) pk = 0 ∧ SimR (runV (linG (gF n m k)) pk) (runG (gF n m k) pk)) := lin_F n m k hn2 hm2
  have e0 : (lowV x0 : Int).tmod 2000 = (n : Int) := by rw [← hn, Int.tmod_eq_emod_of_nonneg (by omega)]; omega
  have e1 : (lowV x1 : Int).tmod 2000 = (m : Int) := by rw [← hm, Int.tmod_eq_emod_of_nonneg (by omega)]; omega
  clear hb hku hn hm
  go_enter Try.func5, Try.ntmps5
  go_wp2_with fail
  refine (low_any x0 _).mono ?_
  rintro e w0 ⟨rfl, rfl⟩
  go_wp2_with fail
  refine (low_any x1 _).mono ?_
  rintro e w0 ⟨rfl, rfl⟩
  go_upto_region 4 with fail
  have VA := VAt.alloc w 47 (blA (.slice none 0 0))
  have GA := World.grownBy_alloc w (.cells (blA (.slice none 0 0)) 47) none
  have VB := VAt.alloc (w.alloc (.cells (blA (.slice none 0 0)) 47)) 47 (blA (.slice none 0 0))
  have GB' := World.grownBy_alloc (w.alloc (.cells (blA (.slice none 0 0)) 47)) (.cells (blA (.slice none 0 0)) 47) none
  have eB : (w.alloc (.cells (blA (.slice none 0 0)) 47)).heap.size = w.heap.size + 1 := by simp
  rw [eB] at VB
  have HV : Hid (VAt ((w.alloc (.cells (blA (.slice none 0 0)) 47)).alloc (.cells (blA (.slice none 0 0)) 47)) w.heap.size 47 (blA (.slice none 0 0)) ∧ VAt ((w.alloc (.cells (blA (.slice none 0 0)) 47)).alloc (.cells (blA (.slice none 0 0)) 47)) (w.heap.size + 1) 47 (blA (.slice none 0 0)) ∧ w.grownBy ((w.alloc (.cells (blA (.slice none 0 0)) 47)).alloc (.cells (blA (.slice none 0 0)) 47)) none) := ⟨VA.kept GB', VB, grown_trans GA GB'⟩
  clear VA GA VB GB' eB hl0 hl1 e0 e1
  generalize (w.alloc (.cells (blA (.slice none 0 0)) 47)).alloc (.cells (blA (.slice none 0 0)) 47) = w2 at *
  obtain ⟨A, hA⟩ : ∃ A, w.heap.size = A := ⟨_, rfl⟩
  obtain ⟨B, hB⟩ : ∃ B, w.heap.size + 1 = B := ⟨_, rfl⟩
  rw [hB] at HV ⊢
  rw [hA] at HV ⊢
  have HAB : Hid (w.heap.size = A ∧ A + 1 = B ∧ A ≠ B) := ⟨hA, by omega, by omega⟩
  clear hA hB
  go_wp2
  go_loopw [13] (fun i wr => ∃ j : Nat, j ≤ n ∧ i = .int .i64 j ∧ ∃ v, VAt wr A 47 (blA v) ∧ VAt wr B 47 (blA (.slice none 0 0)) ∧ IOwns wr w.heap.size v (List.replicate j (addI k)) ∧ w.grownBy wr none) (fun i _ => n - (intOf i).toNat)
  case atStart => exact ⟨0, Nat.zero_le _, rfl, _, HV.out.1, HV.out.2.1, World.ownsRow_nil _ _ _ _, HV.out.2.2⟩
  case round =>
    obtain ⟨j, hj, rfl, v, V1, U1, O1, G1⟩ := hrel
    clear HV
    obtain ⟨va, vc, hv⟩ := own_slice O1
    subst hv
    have HO1 : Hid (VAt wr A 47 (blA (.slice va (List.replicate j (addI k)).length vc)) ∧ VAt wr B 47 (blA (.slice none 0 0)) ∧ IOwns wr w.heap.size (.slice va (List.replicate j (addI k)).length vc) (List.replicate j (addI k)) ∧ w.grownBy wr none) := ⟨V1, U1, O1, G1⟩
    by_cases hlt : j < n
    · have hl : (j : Int) < (n : Int) := by omega
      obtain ⟨NJ, hNJ⟩ : ∃ NJ, (List.replicate j (addI k)).length = NJ := ⟨_, rfl⟩
      have hNJ2 : NJ = j := by rw [← hNJ, List.length_replicate]
      rw [hNJ] at V1
      have c1 : wr.cell? ⟨A, 0, none⟩ = some (.slice va NJ vc) := V1.cell 0
      have HNJ : Hid ((List.replicate j (addI k)).length = NJ ∧ NJ = j) := ⟨hNJ, hNJ2⟩
      clear V1 U1 O1 G1 hNJ hNJ2
      have KL := World.grownBy_alloc wr (.cells #[.int .u16 4, .int .u8 0, .int .u8 0, .int .u32 (k : Int)] 45) none
      have CL := cv_lit wr 45 [.int .u16 4, .int .u8 0, .int .u8 0, .int .u32 (k : Int)]
      have HKL : Hid (wr.grownBy (wr.alloc (.cells #[.int .u16 4, .int .u8 0, .int .u8 0, .int .u32 (k : Int)] 45)) none ∧ CV (wr.alloc (.cells #[.int .u16 4, .int .u8 0, .int .u8 0, .int .u32 (k : Int)] 45)) (some ⟨wr.heap.size, 0, none⟩) [.int .u16 4, .int .u8 0, .int .u8 0, .int .u32 (k : Int)]) := ⟨KL, CL⟩
      clear KL CL
      go_wp2_with (first | (at_builtin; refine wpList_append_own2 rfl (.tmp 33) (.tmp 36) 26 26 rfl 45 i0 _ 4 8 Try.underlying26 Try.underlying26 hi hz0 hz1 hz2 rfl (by decide) w.heap.size _ NJ (flat (List.replicate j (addI k))) rfl ?q1 ⟨wr.heap.size, 0, none⟩ 1 1 [.int .u16 4, .int .u8 0, .int .u8 0, .int .u32 (k : Int)] rfl rfl HKL.out.2 ?q2 ?q3 ?q4 ?q5 ?q6) | fail)
      case q1 => have := owns_keptNone HO1.out.2.2.1 HKL.out.1; rw [HNJ.out.1] at this; exact this
      case q2 => intro u hu; simp only [List.mem_cons, List.not_mem_nil, or_false] at hu; rcases hu with rfl | rfl | rfl | rfl <;> rfl
      case q3 => unfold maxLen; have := HNJ.out.2; omega
      case q4 => have := HNJ.out.2; omega
      case q5 => exact Nat.le_trans HO1.out.2.2.2.size HKL.out.1.size
      case q6 =>
        intro v3 w3 O3 K3 B3
        have HR := grow_one (x := addI k) (v' := v3) (w3 := w3) HO1.out.1 HO1.out.2.1 HAB.out.2.2 HO1.out.2.2.1 HKL.out.1 (by rw [CA.out]; rw [HNJ.out.2] at O3; exact O3) (by rw [HNJ.out.1]; exact K3)
        have G3 : w.grownBy (w3.setCell ⟨A, 0, none⟩ v3) none := grown_setCell (grown_trans_new (grown_trans HO1.out.2.2.2 HKL.out.1) K3 (fun z hz => by have h1 := HO1.out.2.2.1; rw [HNJ.out.1] at h1; exact (h1.lt z hz).1)) _ _ (.inr (by have := HAB.out.1; simp only; omega))
        have V3 := (HO1.out.1.kept HKL.out.1).grown K3 (by have h1 := own_vat HO1.out.2.2.1 HO1.out.1 ins_ne_b; rw [HNJ.out.1] at h1; exact h1)
        have y1 : w3.cell? ⟨A, 0, none⟩ = some (.slice va (List.replicate j (addI k)).length vc) := V3.cell 0
        have y2 : w3.frozen? ⟨A, 0, none⟩ = false := V3.free 0
        have HE : Hid (∃ v, VAt (w3.setCell ⟨A, 0, none⟩ v3) A 47 (blA v) ∧ VAt (w3.setCell ⟨A, 0, none⟩ v3) B 47 (blA (.slice none 0 0)) ∧ IOwns (w3.setCell ⟨A, 0, none⟩ v3) w.heap.size v (List.replicate (j + 1) (addI k)) ∧ w.grownBy (w3.setCell ⟨A, 0, none⟩ v3) none) := ⟨v3, HR.1, HR.2.1, HR.2.2, G3⟩
        obtain ⟨a3, l3, k3, hv3⟩ := own_sl O3
        subst hv3
        clear O3 K3 B3 HR G3 V3 HKL HO1 c1
        go_wp2
        go_roundw
        case rel => exact ⟨j + 1, by omega, by go_num, HE.out⟩
        case measure => simp [intOf]; omega
    · have hl : ¬ (j : Int) < (n : Int) := by omega
      have ej : j = n := by omega
      subst ej
      clear V1 U1 O1 G1
      obtain ⟨LA, hLA⟩ : ∃ LA, List.replicate j (addI k) = LA := ⟨_, rfl⟩
      rw [hLA] at HO1
      have HLA : Hid (List.replicate j (addI k) = LA) := hLA
      clear hLA
      obtain ⟨ws, rfl⟩ : ∃ ws : World, ws = wr := ⟨_, rfl⟩
      obtain ⟨S0, hS0⟩ : ∃ S0, ws.heap.size = S0 := ⟨_, rfl⟩
      have HW0 : Hid (w.heap.size ≤ S0 ∧ ws.heap.size = S0 ∧ ∀ z, (Value.slice va LA.length vc).ownBlock = some z → z < S0) := ⟨by rw [← hS0]; exact HO1.out.2.2.2.size, hS0, fun z hz => by rw [← hS0]; exact (HO1.out.2.2.1.lt z hz).2⟩
      clear hS0
      go_wp2
      go_loopw [14] (fun i wr => ∃ jj : Nat, jj ≤ m ∧ i = .int .i64 jj ∧ ∃ v, VAt wr B 47 (blA v) ∧ VAt wr A 47 (blA (.slice va LA.length vc)) ∧ IOwns wr S0 v (List.replicate jj (subI k)) ∧ IOwns wr w.heap.size (.slice va LA.length vc) LA ∧ w.grownBy wr none ∧ S0 ≤ wr.heap.size) (fun i _ => m - (intOf i).toNat)
      case atStart => exact ⟨0, Nat.zero_le _, rfl, _, HO1.out.2.1, HO1.out.1, World.ownsRow_nil _ _ _ _, HO1.out.2.2.1, HO1.out.2.2.2, by rw [HW0.out.2.1]; exact Nat.le_refl _⟩
      case round =>
        obtain ⟨q, hq, rfl, v, V1, U1, O1, OA, G1, hsz⟩ := hrel
        clear HO1
        obtain ⟨vb, vd, hv⟩ := own_slice O1
        subst hv
        have HO1 : Hid (VAt wr B 47 (blA (.slice vb (List.replicate q (subI k)).length vd)) ∧ VAt wr A 47 (blA (.slice va LA.length vc)) ∧ IOwns wr S0 (.slice vb (List.replicate q (subI k)).length vd) (List.replicate q (subI k)) ∧ IOwns wr w.heap.size (.slice va LA.length vc) LA ∧ w.grownBy wr none ∧ S0 ≤ wr.heap.size) := ⟨V1, U1, O1, OA, G1, hsz⟩
        by_cases hlt2 : q < m
        · have hl2 : (q : Int) < (m : Int) := by omega
          obtain ⟨NJ, hNJ⟩ : ∃ NJ, (List.replicate q (subI k)).length = NJ := ⟨_, rfl⟩
          have hNJ2 : NJ = q := by rw [← hNJ, List.length_replicate]
          rw [hNJ] at V1
          have c1 : wr.cell? ⟨B, 0, none⟩ = some (.slice vb NJ vd) := V1.cell 0
          have HNJ : Hid ((List.replicate q (subI k)).length = NJ ∧ NJ = q) := ⟨hNJ, hNJ2⟩
          clear V1 U1 O1 G1 OA hsz hNJ hNJ2
          have KL := World.grownBy_alloc wr (.cells #[.int .u16 20, .int .u8 0, .int .u8 0, .int .u32 (k : Int)] 45) none
          have CL := cv_lit wr 45 [.int .u16 20, .int .u8 0, .int .u8 0, .int .u32 (k : Int)]
          have HKL : Hid (wr.grownBy (wr.alloc (.cells #[.int .u16 20, .int .u8 0, .int .u8 0, .int .u32 (k : Int)] 45)) none ∧ CV (wr.alloc (.cells #[.int .u16 20, .int .u8 0, .int .u8 0, .int .u32 (k : Int)] 45)) (some ⟨wr.heap.size, 0, none⟩) [.int .u16 20, .int .u8 0, .int .u8 0, .int .u32 (k : Int)]) := ⟨KL, CL⟩
          clear KL CL
          go_wp2_with (first | (at_builtin; refine wpList_append_own2 rfl (.tmp 45) (.tmp 48) 26 26 rfl 45 i0 _ 4 8 Try.underlying26 Try.underlying26 hi hz0 hz1 hz2 rfl (by decide) S0 _ NJ (flat (List.replicate q (subI k))) rfl ?r1 ⟨wr.heap.size, 0, none⟩ 1 1 [.int .u16 20, .int .u8 0, .int .u8 0, .int .u32 (k : Int)] rfl rfl HKL.out.2 ?r2 ?r3 ?r4 ?r5 ?r6) | fail)
          case r1 => have := owns_keptNone HO1.out.2.2.1 HKL.out.1; rw [HNJ.out.1] at this; exact this
          case r2 => intro u hu; simp only [List.mem_cons, List.not_mem_nil, or_false] at hu; rcases hu with rfl | rfl | rfl | rfl <;> rfl
          case r3 => unfold maxLen; have := HNJ.out.2; omega
          case r4 => have := HNJ.out.2; omega
          case r5 => exact Nat.le_trans HO1.out.2.2.2.2.2 HKL.out.1.size
          case r6 =>
            intro v3 w3 O3 K3 B3
            have HR := grow_one (x := subI k) (v' := v3) (w3 := w3) HO1.out.1 HO1.out.2.1 (fun e => HAB.out.2.2 e.symm) HO1.out.2.2.1 HKL.out.1 (by rw [CS.out]; rw [HNJ.out.2] at O3; exact O3) (by rw [HNJ.out.1]; exact K3)
            have G3' : w.grownBy w3 none := grown_trans_new (grown_trans HO1.out.2.2.2.2.1 HKL.out.1) K3 (fun z hz => by have h1 := HO1.out.2.2.1; rw [HNJ.out.1] at h1; have := (h1.lt z hz).1; have := HW0.out.1; omega)
            have G3 : w.grownBy (w3.setCell ⟨B, 0, none⟩ v3) none := grown_setCell G3' _ _ (.inr (by have := HAB.out; simp only; omega))
            have V3 := (HO1.out.1.kept HKL.out.1).grown K3 (by have h1 := own_vat HO1.out.2.2.1 HO1.out.1 ins_ne_b; rw [HNJ.out.1] at h1; exact h1)
            have OA3 : IOwns w3 w.heap.size (.slice va LA.length vc) LA := (owns_keptNone HO1.out.2.2.2.1 HKL.out.1).kept K3 (by
              by_cases hx : (Value.slice va LA.length vc).ownBlock = none
              · exact .inl hx
              · refine .inr fun e => ?_
                obtain ⟨z, hz⟩ := Option.ne_none_iff_exists'.1 hx
                have h1 := HW0.out.2.2 z hz
                have h2 := HO1.out.2.2.1
                rw [HNJ.out.1] at h2
                have h3 := (h2.lt z (by rw [← e]; exact hz)).1
                omega)
            have OA4 : IOwns (w3.setCell ⟨B, 0, none⟩ v3) w.heap.size (.slice va LA.length vc) LA := own_kept OA3 (grown_setCell (World.grownBy.refl _ _) _ _ (.inl rfl)) (own_vat OA3 V3 ins_ne_b)
            have y1 : w3.cell? ⟨B, 0, none⟩ = some (.slice vb (List.replicate q (subI k)).length vd) := V3.cell 0
            have y2 : w3.frozen? ⟨B, 0, none⟩ = false := V3.free 0
            have HE : Hid (∃ v, VAt (w3.setCell ⟨B, 0, none⟩ v3) B 47 (blA v) ∧ VAt (w3.setCell ⟨B, 0, none⟩ v3) A 47 (blA (.slice va LA.length vc)) ∧ IOwns (w3.setCell ⟨B, 0, none⟩ v3) S0 v (List.replicate (q + 1) (subI k)) ∧ IOwns (w3.setCell ⟨B, 0, none⟩ v3) w.heap.size (.slice va LA.length vc) LA ∧ w.grownBy (w3.setCell ⟨B, 0, none⟩ v3) none ∧ S0 ≤ (w3.setCell ⟨B, 0, none⟩ v3).heap.size) := ⟨v3, HR.1, HR.2.1, HR.2.2, OA4, G3, by
              have h1 := HO1.out.2.2.2.2.2
              have h2 := HKL.out.1.size
              have h3 := K3.size
              have h4 := (grown_setCell (World.grownBy.refl w3 (some B)) ⟨B, 0, none⟩ v3 (.inl rfl)).size
              omega⟩
            obtain ⟨a3, l3, k3, hv3⟩ := own_sl O3
            subst hv3
            clear O3 K3 B3 HR G3 G3' V3 OA3 OA4 HKL HO1 c1
            go_wp2
            go_roundw
            case rel => exact ⟨q + 1, by omega, by go_num, HE.out⟩
            case measure => simp [intOf]; omega
        · have hl2 : ¬ (q : Int) < (m : Int) := by omega
          have eq : q = m := by omega
          subst eq
          obtain ⟨LB, hLB⟩ : ∃ LB, List.replicate q (subI k) = LB := ⟨_, rfl⟩
          rw [hLB] at HO1
          have HG : Hid (gF j q k = [b0, bR LA, bR LB] ∧ LA.length = j ∧ LB.length = q) := ⟨by rw [← hLB, ← HLA.out]; rfl, by rw [← HLA.out]; simp, by rw [← hLB]; simp⟩
          rw [HG.out.1] at HF
          clear V1 U1 O1 OA G1 hsz hLB HLA
          have HSZ : Hid ((Try.prog.info? 47).map (·.size) = some 8) := (by kernel_rfl : (Try.prog.info? 47).map (·.size) = some 8)
          have KL := World.grownBy_alloc wr (.cells #[.int .u16 128, .int .u8 0, .int .u8 0, .int .u32 0] 45) none
          have CL := cv_lit wr 45 [.int .u16 128, .int .u8 0, .int .u8 0, .int .u32 0]
          have HKL : Hid (wr.grownBy (wr.alloc (.cells #[.int .u16 128, .int .u8 0, .int .u8 0, .int .u32 0] 45)) none ∧ CV (wr.alloc (.cells #[.int .u16 128, .int .u8 0, .int .u8 0, .int .u32 0] 45)) (some ⟨wr.heap.size, 0, none⟩) [.int .u16 128, .int .u8 0, .int .u8 0, .int .u32 0]) := ⟨KL, CL⟩
          have VA5 := HO1.out.2.1.kept KL
          have VB5 := HO1.out.1.kept KL
          clear KL CL
          go_wp2_with (first | refine wpList_load_row rfl 47 (.tmp 11) rfl A rfl 47 (blA (.slice va LA.length vc)) (0, 0) _ VA5 Try.underlying47 rfl HSZ.out ?_ | refine wpList_load_row rfl 47 (.tmp 12) rfl B rfl 47 (blA (.slice vb LB.length vd)) (0, 0) _ VB5 Try.underlying47 rfl HSZ.out ?_ | (refine wpList_lit (by rfl) 22 3 _ rfl #[(0, .agg (Bv.cells ⟨b0, some ⟨wr.heap.size, 0, none⟩, 1⟩).toArray), (1, .agg (Bv.cells ⟨bR LA, va, vc⟩).toArray), (2, .agg (Bv.cells ⟨bR LB, vb, vd⟩).toArray)] (by kernel_rfl) (flatB [⟨b0, some ⟨wr.heap.size, 0, none⟩, 1⟩, ⟨bR LA, va, vc⟩, ⟨bR LB, vb, vd⟩]) 47 (lit_three _ _ _) ?_; intro V6 w6 C6 K6) | fail)
          have G5 := grown_trans HO1.out.2.2.2.2.1 HKL.out.1
          have hgc : GC w6 (some ⟨V6, 0, none⟩) [⟨b0, some ⟨wr.heap.size, 0, none⟩, 1⟩, ⟨bR LA, va, vc⟩, ⟨bR LB, vb, vd⟩] := by
            refine ⟨C6, fun x hx => ?_⟩
            simp only [List.mem_cons, List.not_mem_nil, or_false] at hx
            rcases hx with rfl | rfl | rfl
            · exact ⟨HKL.out.2.keptNone K6, Nat.le_refl _, fun h => by cases h⟩
            · exact iok (owns_keptNone (owns_keptNone HO1.out.2.2.2.1 HKL.out.1) K6)
            · exact iok (owns_keptNone (owns_keptNone HO1.out.2.2.1 HKL.out.1) K6)
          have hxl : ∀ x ∈ [(⟨b0, some ⟨wr.heap.size, 0, none⟩, 1⟩ : Bv), ⟨bR LA, va, vc⟩, ⟨bR LB, vb, vd⟩], x.b.code.length ≤ 2000 := by
            intro x hx
            simp only [List.mem_cons, List.not_mem_nil, or_false] at hx
            rcases hx with rfl | rfl | rfl
            · show b0.code.length ≤ 2000; decide
            · have := HG.out.2.1; show LA.length ≤ 2000; omega
            · have := HG.out.2.2; show LB.length ≤ 2000; omega
          have G6 := grown_trans G5 K6
          obtain ⟨xs, hxs⟩ : ∃ xs : List Bv, [(⟨b0, some ⟨wr.heap.size, 0, none⟩, 1⟩ : Bv), ⟨bR LA, va, vc⟩, ⟨bR LB, vb, vd⟩] = xs := ⟨_, rfl⟩
          have hgo : gOf xs = [b0, bR LA, bR LB] := by rw [← hxs]; rfl
          have hx3 : xs.length = 3 := by rw [← hxs]; rfl
          rw [hxs] at hgc hxl
          have CB := bcopy_any (some ⟨V6, 0, none⟩) 3 xs w6 hgc (by omega) (fun x hx => by have := hxl x hx; omega)
          rw [hx3] at CB
          rw [← hgo] at HF
          have HGC : Hid (GC w6 (some ⟨V6, 0, none⟩) xs ∧ ∀ x ∈ xs, x.b.code.length ≤ 4611686018427387904) := ⟨hgc, fun x hx => by have := hxl x hx; omega⟩
          have HX3 : Hid (xs.length = 3) := hx3
          clear hgc hxl hgo hxs hx3 C6 K6 VA5 VB5 HKL HO1 G5 HG
          refine CB.mono ?_
          rintro e w7 ⟨v7, ys, rfl, B7, hy, K7⟩
          obtain ⟨a7, c7, rfl, gc7, -⟩ := B7.gc
          have CL := linear_any a7 c7 ys w7 gc7 (fun y hyy => by
            have h1 : y.b ∈ gOf xs := by rw [← hy]; exact List.mem_map.2 ⟨y, hyy, rfl⟩
            obtain ⟨x, hx, hxb⟩ := List.mem_map.1 h1
            rw [← hxb]
            exact HGC.out.2 x hx)
          rw [hy, HF.out.1] at CL
          have G7 := grown_trans G6 K7
          have HK7 : Hid (w6.grownBy w7 none) := K7
          clear CB B7 gc7 hy K7
          go_wp2_with fail
          refine CL.mono ?_
          rintro e w8 ⟨v8, rfl, O8, K8⟩
          obtain ⟨a8, c8, rfl⟩ := own_slice O8
          have HO8 : Hid (CV w8 a8 (flat (linG (gOf xs)))) := by
            obtain ⟨y1, y2, y3, y4, -⟩ := cv_of_row O8
            injection y3 with e
            subst e
            exact y4
          have G8 := grown_trans G7 K8
          have HK8 : Hid (w6.grownBy w8 none) := grown_trans HK7.out K8
          clear CL O8 K8 G7 HK7 G6
          have HSM : Hid (∀ (W : World) (c : Option Addr) (cc : Nat) (qk : List UInt8), w8.grownBy W none → Cells W c qk → qk.length ≤ 65536 → Calls Try.prog 18 #[.slice (some ⟨V6, 0, none⟩) 3 3, .slice a8 (linG (gOf xs)).length c8, .slice c qk.length cc] W fun e w' => e = .returned (.bool true) ∧ W.grownBy w' none) := fun W c cc qk G hc hq => by
            have hs := HF.out.2 qk hq
            have := same18_any (some ⟨V6, 0, none⟩) a8 c 3 c8 cc xs (linG (gOf xs)) qk W (HGC.out.1.keptNone (grown_trans HK8.out G)) HGC.out.2 (HO8.out.keptNone G) hc hq hs.1 hs.2.1 hs.2.2
            rw [HX3.out] at this
            exact this
          generalize (linG (gOf xs)).length = PL at *
          by_cases hp : 65536 < pk.length
          · have hp' : (65536 : Int) < (pk.length : Int) := by omega
            go_wp2_with fail
            refine (awake18_any _).mono ?_
            rintro e w9 ⟨rfl, K9⟩
            go_wp2
            go_ret
            exact ⟨rfl, grown_trans G8 K9⟩
          · have hp' : ¬ (65536 : Int) < (pk.length : Int) := by omega
            go_wp2_with fail
            refine (HSM.out w8 b cb pk (World.grownBy.refl _ _) (HP.out.keptNone G8) (by omega)).mono ?_
            rintro e w9 ⟨rfl, K9⟩
            go_wp2_with fail
            refine (HSM.out w9 none 0 [] K9 ⟨fun _ => rfl, fun ad had => (by cases had)⟩ (by simp)).mono ?_
            rintro e w10 ⟨rfl, K10⟩
            have K10' := grown_trans K9 K10
            have C10 := cells_lit w10 [1, 2, 3, 4]
            have G10 : w10.grownBy (w10.alloc (.cells #[.int .u8 1, .int .u8 2, .int .u8 3, .int .u8 4] 5)) none := World.grownBy_alloc _ _ _
            have HC10 : Hid (Cells (w10.alloc (.cells #[.int .u8 1, .int .u8 2, .int .u8 3, .int .u8 4] 5)) (some ⟨w10.heap.size, 0, none⟩) [1, 2, 3, 4] ∧ w8.grownBy (w10.alloc (.cells #[.int .u8 1, .int .u8 2, .int .u8 3, .int .u8 4] 5)) none) := ⟨C10, grown_trans K10' G10⟩
            clear K9 K10 K10' C10 G10
            go_wp2_with fail
            refine (HSM.out _ (some ⟨w10.heap.size, 0, none⟩) 4 [1, 2, 3, 4] HC10.out.2 HC10.out.1 (by simp)).mono ?_
            rintro e w11 ⟨rfl, K11⟩
            have G11 := grown_trans G8 (grown_trans HC10.out.2 K11)
            clear HC10 K11
            go_wp2_with fail
            refine (awake18_any _).mono ?_
            rintro e w12 ⟨rfl, K12⟩
            go_wp2
            go_ret
            exact ⟨rfl, grown_trans G11 K12⟩

set_option maxRecDepth 100000 in
theorem lifted (os : Os) (started : os.Started) (H : Type) (enc : TypeId × Value → H) :
    ReturnsInHanded {} Try.checked os 5 .any (Rows.lineFarSpec.pre6 enc Try.prog Try.f5 Rows.lineFarRow.domain false) (Rows.lineFarSpec.post enc Try.prog Try.f5 false true false false) := by
  refine returnsInHanded_of_change_sized (C := Try.checked) own started (by kernel_rfl) Try.func5
    (ChangeSpec.witness6 (enc := enc) (C := Try.checked) false ⟨#[], #[.int .i64 0, .int .i64 0, .int .u32 0, .slice none 0 0], []⟩ 8 (by kernel_rfl) (by kernel_rfl) (by kernel_rfl) (by kernel_rfl)) ?_
  intro W base args ds gs before hval0 hW hcnd hsz0 _
  have hsz : (DataW.weightsEach Try.prog (Try.f5.params.toList ++ Rows.lineFarSpec.plain.varTypes Try.prog) (ds ++ gs)).all (· ≤ reachBytes) = true := hsz0
  have hval : ∀ (j : Nat) t v, Try.f5.params[j]? = some t → args[j]? = some v → Value.okWide Try.prog W .any base t v := hval0
  have hW' := hW
  obtain ⟨p, q, hA0, hV, rfl, hfz, hnd⟩ := hW
  have hA : DataW.TrodAll enc Try.prog W 0 (fun _ => true) true Try.f5.params.toList args.toList ds p := hA0
  rw [Try.params5] at hA hval hsz
  obtain ⟨v0, vs0, d0, ds0, p0, q0, hargs, rfl, rfl, h0, r0⟩ := trodAll_cons hA
  obtain ⟨v1, vs1, d1, ds1, p1, q1, rfl, rfl, rfl, h1, r1⟩ := trodAll_cons r0
  obtain ⟨v2, vs2, d2, ds2, p2, q2, rfl, rfl, rfl, h2, r2⟩ := trodAll_cons r1
  obtain ⟨v3, vs3, d3, ds3, p3, q3, rfl, rfl, rfl, h3, r3⟩ := trodAll_cons r2
  obtain ⟨rfl, rfl, rfl⟩ := trodAll_nil r3
  obtain rfl : args = #[v0, v1, v2, v3] := by cases args; simp_all
  obtain ⟨rfl, rfl⟩ := trodVars_none hV
  obtain ⟨x0, rfl, rfl, rfl, w0⟩ := open_int Try.underlying3 (hval 0 3 v0 rfl rfl) h0
  obtain ⟨x1, rfl, rfl, rfl, w1⟩ := open_int Try.underlying3 (hval 1 3 v1 rfl rfl) h1
  obtain ⟨y2, rfl, rfl, rfl, w2⟩ := open_int Try.underlying41 (hval 2 41 v2 rfl rfl) h2
  have bd2 := bounds_u32 w2
  obtain ⟨x2, rfl⟩ := Int.eq_ofNat_of_zero_le bd2.1
  have hv2 : x2 ≤ 4294967295 := by omega
  obtain ⟨a3, len3, cap3, rfl⟩ := okWide_slice Try.underlying38 (hval 3 38 v3 rfl rfl)
  have k3 := h3
  have lt3 : ∀ x ∈ p3, x.block < W.heap.size := by obtain ⟨m, hm⟩ := k3; exact DataW.trod_lt m _ _ _ hm
  obtain ⟨xs3, rfl, hcells3, hnil3, hdat3⟩ := open_bytes Try.underlying38 Try.underlying5 (by kernel_rfl) h3
  have hlen3 : xs3.length * 1 ≤ 140737488351232 := by
    rcases hdat3 with ⟨_, rfl⟩ | ⟨elems, spare, rfl, hle⟩
    · simp
    · have := sized_slice hsz (j := 3) (t := 38) (e := 5) rfl rfl Try.underlying38
      rw [bytes5] at this
      unfold reachBytes at this
      omega
  clear hA0 hval0
  refine (walk x0 x1 x2 a3 cap3 xs3 W hv2 hcells3 hnil3 (by omega)).mono fun e W' ⟨he, hg⟩ => ?_
  subst he
  have bel : Below W.heap.size W W' := (Below.refl _ _).grown hg (Nat.le_refl _) (by simp)
  exact ⟨_, rfl, _, _, _, [], _, [], hW', trodAll_mk1 (shut_bool Try.underlying4 _), (trodAll_cons_mk (shut_int Try.underlying3 w0) (trodAll_cons_mk (shut_int Try.underlying3 w1) (trodAll_cons_mk (shut_int Try.underlying41 w2) (trodAll_cons_mk (Below.trod laidOut (by kernel_rfl) (of_decide_eq_true (by kernel_rfl)) k3 bel lt3) trodAll_mk0)))), rfl, bel.frame _, fun h => by cases h⟩

theorem over : Rows.LineFarSaid :=
  OpenClaim.holds_of_wide 5 Try.f5 rfl rfl rfl rfl rfl rfl rfl ⟨rfl, rfl, rfl, rfl, rfl⟩ rfl rfl rfl rfl rfl (by kernel_rfl) Try.func5 (by kernel_rfl)
    (of_decide_eq_true (by kernel_rfl)) (by unfold Func.isWrapper; first | (rw [if_pos (by decide +kernel)]; kernel_rfl) | (rw [if_neg (by decide +kernel)]; exact ⟨rfl, rfl⟩))
    (fun os started H enc _ => lifted os started H enc)

end lineFar

theorem lineFar_holds : Rows.LineFarSaid := lineFar.over
#print axioms lineFar_holds

end Go.Proofs.Ytelgfegkobkhiaa
