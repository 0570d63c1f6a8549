/-
  For every number, both bools and every list of bytes riddlelaw18.LineLadder returns true and leaves what was there as it was: no condition of ours.
-/
import Derived.Test.YtelgfegkobkhiaaLnJ
import Derived.Test.YtelgfegkobkhiaaLotP44
import Derived.Test.YtelgfegkobkhiaaLotP49
namespace Go.Proofs.Ytelgfegkobkhiaa
open Go.ChangeShapes Go.WideShapes Go.ChangeAt Go.RowKit
set_option maxRecDepth 100000
namespace lineLadder

/-- One rung. -/
def rung (far : Bool) (n i : Nat) : Bk := if far = true then ⟨[⟨0, 0, 0, UInt32.ofNat i⟩, ⟨129, 0, 0, 0⟩], 3, ⟨45, 0, 0, 0⟩, (i : Int) + 1, (n : Int) + 1⟩ else ⟨[⟨0, 0, 0, UInt32.ofNat i⟩, ⟨129, 0, 0, 0⟩], 3, ⟨29, 0, 0, 0⟩, (n : Int) + 1, (i : Int) + 1⟩
def rungs (far : Bool) (n k : Nat) : List Bk := (List.range k).map (rung far n)
def bE1 : Bk := ⟨[], 1, ⟨6, 0, 0, 5⟩, 0, 0⟩
def bE2 : Bk := ⟨[], 1, ⟨22, 0, 0, 0⟩, 0, 0⟩
def gL (far : Bool) (n : Nat) : List Bk := rungs far n n ++ [bE1, bE2]

theorem rungs_len (far : Bool) (n k : Nat) : (rungs far n k).length = k := by simp [rungs]
theorem rungs_succ (far : Bool) (n k : Nat) : rungs far n (k + 1) = rungs far n k ++ [rung far n k] := by simp [rungs, List.range_succ]
theorem rung_code (far : Bool) (n i : Nat) : (rung far n i).code = [⟨0, 0, 0, UInt32.ofNat i⟩, ⟨129, 0, 0, 0⟩] := by cases far <;> rfl
theorem rung_en (far : Bool) (n i : Nat) : (rung far n i).en = 3 := by cases far <;> rfl
theorem rung_straight (far : Bool) (n i : Nat) : straightB (rung far n i).code = true := by
  rw [rung_code]
  have h : ∀ k : UInt32, plainI ⟨0, 0, 0, k⟩ = true := fun k => by
    have hf : faultV ((0 : UInt16).toNat : Int) k.toNat = 0 := by
      have hk : knownB ((0 : UInt16).toNat : Int) = true := by decide
      have hm : memB ((0 : UInt16).toNat : Int) = false := by decide
      have hd : divB ((0 : UInt16).toNat : Int) = false := by decide
      have hs : shfB ((0 : UInt16).toNat : Int) = false := by decide
      rw [faultV, if_neg (by rw [hk]; simp), hm, hd, hs]
      simp
    have hl : leavesB ⟨0, 0, 0, k⟩ = false := by
      show (classV ((0 : UInt16).toNat : Int) == 5 || classV ((0 : UInt16).toNat : Int) == 6) = false
      decide
    show (!leavesB ⟨0, 0, 0, k⟩ && faultV ((0 : UInt16).toNat : Int) k.toNat == 0) = true
    rw [hl, hf]
    rfl
  have h2 : plainI ⟨129, 0, 0, 0⟩ = true := by decide
  simp [straightB, h, h2]
theorem rung_ends (far : Bool) (n i : Nat) : gendsB (rung far n i) = true := by
  rw [gendsB, if_neg (by rw [rung_en]; decide), if_neg (by rw [rung_en]; decide), if_pos (rung_en far n i)]
  cases far with
  | true =>
    show (usesJ ((45 : UInt16).toNat : Int) && inEq ⟨45, 0, 0, 0⟩ (bareV ⟨45, 0, 0, 0⟩)) = true
    decide
  | false =>
    show (usesJ ((29 : UInt16).toNat : Int) && inEq ⟨29, 0, 0, 0⟩ (bareV ⟨29, 0, 0, 0⟩)) = true
    decide
theorem rung_leads (far : Bool) {n i : Nat} (hi : i < n) : leadsB (rung far n i) i (n + 2) = true := by
  rw [leadsB, if_neg (by rw [rung_en]; decide), if_pos (rung_en far n i)]
  cases far with
  | true =>
    show (aheadB i (n + 2) ((i : Int) + 1) && aheadB i (n + 2) ((n : Int) + 1)) = true
    simp [aheadB]
    omega
  | false =>
    show (aheadB i (n + 2) ((n : Int) + 1) && aheadB i (n + 2) ((i : Int) + 1)) = true
    simp [aheadB]
    omega
theorem gL_len (far : Bool) (n : Nat) : (gL far n).length = n + 2 := by rw [gL, List.length_append, rungs_len]; rfl
theorem gL_codes (far : Bool) (n : Nat) : ∀ k, codeLen (rungs far n k) = 2 * k ∧ countG measE (rungs far n k) = 5 * k
  | 0 => ⟨rfl, rfl⟩
  | k + 1 => by
    obtain ⟨h1, h2⟩ := gL_codes far n k
    rw [rungs_succ]
    have e1 : codeLen (rungs far n k ++ [rung far n k]) = codeLen (rungs far n k) + (rung far n k).code.length := by simp [codeLen]
    have e2 : countG measE (rungs far n k ++ [rung far n k]) = countG measE (rungs far n k) + ((rung far n k).code.length + measE (rung far n k)) := by simp [countG]
    have e3 : measE (rung far n k) = 3 := by rw [measE, if_pos (rung_en far n k)]
    rw [e1, e2, e3, h1, h2, rung_code]
    simp only [List.length_cons, List.length_nil]
    omega
theorem gL_meas (far : Bool) (n : Nat) : countG measE (gL far n) = 5 * n + 2 := by
  have h := (gL_codes far n n).2
  have e : countG measE (gL far n) = countG measE (rungs far n n) + 2 := by simp [gL, countG, bE1, bE2, measE]
  omega
theorem taken_L (far : Bool) (n : Nat) (hn : n ≤ 1200) : TakenG (gL far n) := by
  have hl := gL_len far n
  refine ⟨by omega, by omega, fun j hj => ?_, ?_⟩
  · by_cases h : j < n
    · have e : (gL far n)[j] = rung far n j := by
        simp only [gL]
        rw [List.getElem_append_left (by rw [rungs_len]; exact h)]
        simp [rungs]
      rw [e, hl]
      exact ⟨rung_straight far n j, rung_ends far n j, rung_leads far h⟩
    · have hr := rungs_len far n n
      by_cases h2 : j = n
      · have e : (gL far n)[j] = bE1 := by
          simp only [gL]
          rw [List.getElem_append_right (by omega)]
          simp [hr, h2]
        rw [e]
        exact ⟨by decide, by decide, rfl⟩
      · have e : (gL far n)[j] = bE2 := by
          simp only [gL]
          rw [List.getElem_append_right (by omega)]
          have : j - (rungs far n n).length = 1 := by omega
          simp [this]
        rw [e]
        exact ⟨by decide, by decide, rfl⟩
  · have h := (gL_codes far n n).1
    have e : codeLen (gL far n) = codeLen (rungs far n n) := by simp [gL, codeLen, bE1, bE2]
    omega
theorem lin_L (far : Bool) (n : Nat) (hn : n ≤ 1200) : (4096 < 5 * n + 2 → linE (gL far n) = 181 ∧ linG (gL far n) = []) ∧ (¬ 4096 < 5 * n + 2 → linE (gL far n) = 0 ∧ ∀ pk : List UInt8, pk.length ≤ 65536 → runE (linG (gL far n)) pk = 0 ∧ runGE (gL far n) pk = 0 ∧ SimR (runV (linG (gL far n)) pk) (runG (gL far n) pk)) := by
  have T := taken_L far n hn
  have hM := gL_meas far n
  have hG : (gckG (gL far n)).2 = 0 := by rw [check_of T]
  constructor
  · intro h
    have e : linE (gL far n) = 181 := by rw [linE, if_pos hG, if_pos (by omega)]
    exact ⟨e, by rw [linG, if_neg (by rw [e]; decide)]⟩
  · intro h
    have e : linE (gL far n) = 0 := by rw [linE, if_pos hG, if_neg (by omega)]
    refine ⟨e, fun pk hp => ?_⟩
    have := line_runs hG (by omega) (pk := pk) hp
    rw [show linG (gL far n) = progG (gL far n) by rw [linG, if_pos e]]
    exact this

theorem own_lit (w : World) (e size n : Nat) (cs : List Value) (h : cs.length = n * size) (hn : n ≤ maxLen) : (w.alloc (.cells cs.toArray e)).ownsRow w.heap.size e size (.slice (some ⟨w.heap.size, 0, none⟩) n n) n cs :=
  ⟨h, .inr ⟨w.heap.size, n, cs.toArray, rfl, Nat.le_refl _, heap_alloc_new w _, Nat.le_refl _, hn, by simpa using h, by rw [← h]; simp⟩⟩
theorem blk_ne_i : (47 : Nat) ≠ 45 := by decide
theorem ins_ne_b : (45 : Nat) ≠ 47 := by decide
/-- Blocks that are owned, with their Codes. -/
def LV (w : World) (base : Nat) (v : Value) (xs : List Bv) : Prop := w.ownsRow base 47 8 v xs.length (flatB xs) ∧ ∀ x ∈ xs, IOwns w base (.slice x.a x.b.code.length x.ca) x.b.code
theorem LV.kept {w w' : World} {base : Nat} {v : Value} {xs : List Bv} (h : LV w base v xs) (K : w.grownBy w' none) : LV w' base v xs := ⟨owns_keptNone h.1 K, fun x hx => owns_keptNone (h.2 x hx) K⟩
theorem LV.other {w w' : World} {base g t : Nat} {cs : Array Value} {v : Value} {xs : List Bv} (h : LV w base v xs) (A : VAt w g t cs) (hg : ¬ v.ownBlock = some g) (ht : t = 47) (K : w.grownBy w' (some g)) : LV w' base v xs := ⟨own_kept h.1 K hg, fun x hx => own_kept (h.2 x hx) K (own_vat (h.2 x hx) A (by rw [ht]; exact ins_ne_b))⟩
theorem LV.app {w w' : World} {base : Nat} {v v' : Value} {xs ys : List Bv} (h : LV w base v xs) (hy : ∀ y ∈ ys, IOwns w base (.slice y.a y.b.code.length y.ca) y.b.code) (O : w'.ownsRow base 47 8 v' (xs.length + ys.length) (flatB xs ++ flatB ys)) (K : w.grownBy w' v.ownBlock) : LV w' base v' (xs ++ ys) := by
  refine ⟨by rw [List.length_append, flatB_append]; exact O, fun x hx => ?_⟩
  have hx' : IOwns w base (.slice x.a x.b.code.length x.ca) x.b.code := (List.mem_append.1 hx).elim (h.2 x) (hy x)
  cases hb : v.ownBlock with
  | none => rw [hb] at K; exact owns_keptNone hx' K
  | some z => rw [hb] at K; exact own_kept hx' K (own_other h.1 hx' blk_ne_i hb)
theorem LV.gc {w : World} {base : Nat} {v : Value} {xs : List Bv} (h : LV w base v xs) : ∃ a c, v = .slice a xs.length c ∧ GC w a xs := by
  obtain ⟨a, c, rfl, y4, -⟩ := cv_of_row h.1
  refine ⟨a, c, rfl, y4, fun x hx => ?_⟩
  obtain ⟨z1, z2, z3, z4, z5, -, z6, -⟩ := cv_of_row (h.2 x hx)
  injection z3 with e1 e2 e3
  subst e1 e3
  exact ⟨z4, z5, z6⟩
theorem lit_blk (x : Bv) (W : World) : (Instr.buildSlice 22 1 #[(0, .agg x.cells.toArray)]).run Try.prog W = .ok (.slice (some ⟨W.heap.size, 0, none⟩) 1 1) (W.alloc (.cells x.cells.toArray 47)) := by kernel_rfl
theorem lit_two (x y : Bv) (W : World) : (Instr.buildSlice 22 2 #[(0, .agg x.cells.toArray), (1, .agg y.cells.toArray)]).run Try.prog W = .ok (.slice (some ⟨W.heap.size, 0, none⟩) 2 2) (W.alloc (.cells (flatB [x, y]).toArray 47)) := by kernel_rfl
theorem cells_one (x : Bv) : ∀ u ∈ x.cells, u.oneCell' = true := fun u hu => flatB_one [x] u (by rw [flatB_cons, flatB_nil, List.append_nil]; exact hu)

/-- A list made, also where the operation is guarded. -/
theorem wpList_make_want {P : Program} (w : World) {ops : Array Oper} {rest : List Oper} {o : Oper} {a : Act} {Q : Exit → Act → World → Prop}
    (hw : Region.wanted o (yielded ops a.tmps) = true) (l c : Operand) (t : TypeId) (hop : o.op = Op.makeSlice t l c)
    (base : Nat) (e : TypeId) (i : TypeInfo) (z : Value) (size : Nat) (h1 : P.underlying t = some (.slice e)) (h2 : P.info? e = some i) (h3 : i.zero = some z) (h4 : i.size = size)
    (kl kc : IntKind) (L C : Int) (n : Nat) (hl : a.eval l = .int kl L) (hc : a.eval c = .int kc C) (hL : L = (n : Int)) (hC : C = (n : Int)) (b2 : i.bytes * n ≤ 281474976710656) (b3 : n ≤ maxLen) (b4 : base ≤ w.heap.size)
    (hK : ∀ w', w'.ownsRow base e size (.slice (some ⟨w.heap.size, 0, none⟩) n n) n (madeCells z.cells (n * size)).toList → w.grownBy w' none → wpList P ops Q rest (a.put o.dst (.slice (some ⟨w.heap.size, 0, none⟩) n n)) w') :
    wpList P ops Q (o :: rest) a w := by
  refine BigFrame.wpList_want hw fun K hK' => ?_
  obtain ⟨w', hrun, r1, r2⟩ := run_make_full (P := P) w base t e i z size h1 h2 h3 h4 kl kc n b2 b3 b4
  subst hL
  subst hC
  unfold Oper.wp
  simp [execOp, hop, hl, hc, hrun, Result.andThen]
  exact hK' _ _ (hK w' r1 r2)
theorem made_cells {w : World} {base g n : Nat} (O : w.ownsRow base 5 1 (.slice (some ⟨g, 0, none⟩) n n) n (List.replicate n (.int .u8 0))) : Cells w (some ⟨g, 0, none⟩) (List.replicate n 0) := by
  have O' : w.ownsRow base 5 1 (.slice (some ⟨g, 0, none⟩) n n) (List.replicate n (0 : UInt8)).length ((List.replicate n (0 : UInt8)).map bv) := by
    rw [List.length_replicate, List.map_replicate]
    exact O
  obtain ⟨a', c', e, hc, -⟩ := Owns.shape O'
  injection e with e1
  subst e1
  exact hc

set_option maxHeartbeats 8000000 in
theorem walk (x0 : Int) (far : Bool) (b : Option Addr) (cb : Nat) (pk : List UInt8) (w : World) (hb : Cells w b pk) (_hd0 : b = none → cb = 0) (_hpm : pk.length ≤ 140737488351232) :
    Calls Try.prog 6 #[.int .i64 x0, .bool far, .slice b pk.length cb] w fun e w' => e = .returned (.bool true) ∧ w.grownBy w' none := by
  obtain ⟨i0, hi, hz0, hz1, hz2⟩ := info_parts info47
  have HP : Hid (Cells w b pk) := hb
  have hl0 := lowV_lt x0
  obtain ⟨n, hn⟩ : ∃ n, lowV x0 % 1200 + 1 = n := ⟨_, rfl⟩
  have hn2 : n ≤ 1200 := by omega
  have hn1 : 1 ≤ n := by omega
  have HF : Hid ((4096 < 5 * n + 2 → linE (gL far n) = 181 ∧ linG (gL far n) = []) ∧ (¬ 4096 < 5 * n + 2 → linE (gL far n) = 0 ∧ ∀ pk : List UInt8, pk.length ≤ 65536 → runE (linG (gL far n)) pk = 0 ∧ runGE (gL far n) pk = 0 ∧ SimR (runV (linG (gL far n)) pk) (runG (gL far n) pk))) := lin_L far n hn2
  have e0 : (lowV x0 : Int).tmod 1200 = (n : Int) - 1 := by rw [← hn, Int.tmod_eq_emod_of_nonneg (by omega)]; omega
  have e1 : IntKind.i64.wrap ((n : Int) - 1 + 1) = (n : Int) := by rw [IntKind.wrap_i64]; omega
  have e2 : (n : Int) - 1 + 1 = (n : Int) := by omega
  clear hb hn
  go_enter Try.func6, Try.ntmps6
  go_wp2_with fail
  refine (low_any x0 _).mono ?_
  rintro e w0 ⟨rfl, rfl⟩
  go_wp2
  clear hl0 e0 e1 e2
  go_loopw [9, 8] (fun i v wr => ∃ k : Nat, k ≤ n ∧ i = .int .i64 k ∧ ∃ xs : List Bv, LV wr w.heap.size v xs ∧ gOf xs = rungs far n k ∧ w.grownBy wr none) (fun i _ _ => n - (intOf i).toNat)
  case atStart => exact ⟨0, Nat.zero_le _, rfl, [], ⟨World.ownsRow_nil _ _ _ _, fun x hx => by cases hx⟩, rfl, World.grownBy.refl _ _⟩
  case round =>
    obtain ⟨k, hk, rfl, xs, L1, hg1, G1⟩ := hrel
    by_cases hlt : k < n
    · have hl : (k : Int) < (n : Int) := by omega
      have hku : IntKind.u32.wrap (k : Int) = (k : Int) := by rw [IntKind.wrap_u32]; omega
      have hk1 : IntKind.i64.wrap ((k : Int) + 1) = (k : Int) + 1 := by rw [IntKind.wrap_i64]; omega
      have hnn : IntKind.i64.wrap ((n : Int) + 1) = (n : Int) + 1 := by rw [IntKind.wrap_i64]; omega
      have HL1 : Hid (LV wr w.heap.size u8 xs ∧ gOf xs = rungs far n k ∧ w.grownBy wr none) := ⟨L1, hg1, G1⟩
      have HLN : Hid (xs.length ≤ 1200) := by
        have := congrArg List.length HL1.out.2.1
        rw [gOf_len, rungs_len] at this
        show xs.length ≤ 1200
        omega
      clear L1 hg1 G1
      have eu : ((UInt32.ofNat k).toNat : Int) = (k : Int) := by rw [UInt32.toNat_ofNat']; omega
      have efl : flat [⟨0, 0, 0, UInt32.ofNat k⟩, ⟨129, 0, 0, 0⟩] = [.int .u16 0, .int .u8 0, .int .u8 0, .int .u32 (k : Int), .int .u16 129, .int .u8 0, .int .u8 0, .int .u32 0] := by
        show [_, _, _, _, _, _, _, _] = _
        simp only [eu]
        rfl
      have OC := own_lit wr 45 4 2 [.int .u16 0, .int .u8 0, .int .u8 0, .int .u32 (k : Int), .int .u16 129, .int .u8 0, .int .u8 0, .int .u32 0] rfl (by unfold maxLen; omega)
      rw [← efl] at OC
      have KC : wr.grownBy (wr.alloc (.cells #[.int .u16 0, .int .u8 0, .int .u8 0, .int .u32 (k : Int), .int .u16 129, .int .u8 0, .int .u8 0, .int .u32 0] 45)) none := World.grownBy_alloc _ _ _
      have OC2 : (wr.alloc (.cells #[.int .u16 0, .int .u8 0, .int .u8 0, .int .u32 (k : Int), .int .u16 129, .int .u8 0, .int .u8 0, .int .u32 0] 45)).ownsRow w.heap.size 45 4 (.slice (some ⟨wr.heap.size, 0, none⟩) 2 2) 2 (flat [⟨0, 0, 0, UInt32.ofNat k⟩, ⟨129, 0, 0, 0⟩]) := by
        have := owns_mono OC HL1.out.2.2.size
        rw [efl] at this ⊢
        exact this
      have VD := VAt.alloc (wr.alloc (.cells #[.int .u16 0, .int .u8 0, .int .u8 0, .int .u32 (k : Int), .int .u16 129, .int .u8 0, .int .u8 0, .int .u32 0] 45)) 47 #[.slice (some ⟨wr.heap.size, 0, none⟩) 2 2, .int .i64 3, .int .u16 29, .int .u8 0, .int .u8 0, .int .u32 0, .int .i64 ((n : Int) + 1), .int .i64 ((k : Int) + 1)]
      have KD : (wr.alloc (.cells #[.int .u16 0, .int .u8 0, .int .u8 0, .int .u32 (k : Int), .int .u16 129, .int .u8 0, .int .u8 0, .int .u32 0] 45)).grownBy ((wr.alloc (.cells #[.int .u16 0, .int .u8 0, .int .u8 0, .int .u32 (k : Int), .int .u16 129, .int .u8 0, .int .u8 0, .int .u32 0] 45)).alloc (.cells #[.slice (some ⟨wr.heap.size, 0, none⟩) 2 2, .int .i64 3, .int .u16 29, .int .u8 0, .int .u8 0, .int .u32 0, .int .i64 ((n : Int) + 1), .int .i64 ((k : Int) + 1)] 47)) none := World.grownBy_alloc _ _ _
      have eD : (wr.alloc (.cells #[.int .u16 0, .int .u8 0, .int .u8 0, .int .u32 (k : Int), .int .u16 129, .int .u8 0, .int .u8 0, .int .u32 0] 45)).heap.size = wr.heap.size + 1 := by simp
      rw [eD] at VD
      have HD : Hid (VAt ((wr.alloc (.cells #[.int .u16 0, .int .u8 0, .int .u8 0, .int .u32 (k : Int), .int .u16 129, .int .u8 0, .int .u8 0, .int .u32 0] 45)).alloc (.cells #[.slice (some ⟨wr.heap.size, 0, none⟩) 2 2, .int .i64 3, .int .u16 29, .int .u8 0, .int .u8 0, .int .u32 0, .int .i64 ((n : Int) + 1), .int .i64 ((k : Int) + 1)] 47)) (wr.heap.size + 1) 47 #[.slice (some ⟨wr.heap.size, 0, none⟩) 2 2, .int .i64 3, .int .u16 29, .int .u8 0, .int .u8 0, .int .u32 0, .int .i64 ((n : Int) + 1), .int .i64 ((k : Int) + 1)] ∧ LV ((wr.alloc (.cells #[.int .u16 0, .int .u8 0, .int .u8 0, .int .u32 (k : Int), .int .u16 129, .int .u8 0, .int .u8 0, .int .u32 0] 45)).alloc (.cells #[.slice (some ⟨wr.heap.size, 0, none⟩) 2 2, .int .i64 3, .int .u16 29, .int .u8 0, .int .u8 0, .int .u32 0, .int .i64 ((n : Int) + 1), .int .i64 ((k : Int) + 1)] 47)) w.heap.size u8 xs ∧ ((wr.alloc (.cells #[.int .u16 0, .int .u8 0, .int .u8 0, .int .u32 (k : Int), .int .u16 129, .int .u8 0, .int .u8 0, .int .u32 0] 45)).alloc (.cells #[.slice (some ⟨wr.heap.size, 0, none⟩) 2 2, .int .i64 3, .int .u16 29, .int .u8 0, .int .u8 0, .int .u32 0, .int .i64 ((n : Int) + 1), .int .i64 ((k : Int) + 1)] 47)).ownsRow w.heap.size 45 4 (.slice (some ⟨wr.heap.size, 0, none⟩) 2 2) 2 (flat [⟨0, 0, 0, UInt32.ofNat k⟩, ⟨129, 0, 0, 0⟩]) ∧ gOf xs = rungs far n k ∧ w.grownBy ((wr.alloc (.cells #[.int .u16 0, .int .u8 0, .int .u8 0, .int .u32 (k : Int), .int .u16 129, .int .u8 0, .int .u8 0, .int .u32 0] 45)).alloc (.cells #[.slice (some ⟨wr.heap.size, 0, none⟩) 2 2, .int .i64 3, .int .u16 29, .int .u8 0, .int .u8 0, .int .u32 0, .int .i64 ((n : Int) + 1), .int .i64 ((k : Int) + 1)] 47)) none) := ⟨VD, (HL1.out.1.kept KC).kept KD, owns_keptNone OC2 KD, HL1.out.2.1, grown_trans HL1.out.2.2 (grown_trans KC KD)⟩
      have HVN : Hid (¬ u8.ownBlock = some (wr.heap.size + 1) ∧ w.heap.size ≤ wr.heap.size) := ⟨fun e => by have := (HL1.out.1.1.lt _ e).2; omega, HL1.out.2.2.size⟩
      clear eu efl OC KC OC2 VD KD eD
      go_upto_region 7 with fail
      generalize (wr.alloc (.cells #[.int .u16 0, .int .u8 0, .int .u8 0, .int .u32 (k : Int), .int .u16 129, .int .u8 0, .int .u8 0, .int .u32 0] 45)).alloc (.cells #[.slice (some ⟨wr.heap.size, 0, none⟩) 2 2, .int .i64 3, .int .u16 29, .int .u8 0, .int .u8 0, .int .u32 0, .int .i64 ((n : Int) + 1), .int .i64 ((k : Int) + 1)] 47) = w3 at *
      have hCD0 : wr.heap.size + 1 = wr.heap.size + 1 := rfl
      obtain ⟨D, hCD⟩ : ∃ D, wr.heap.size + 1 = D := ⟨_, rfl⟩
      rw [hCD] at HD HVN ⊢
      clear hCD0
      generalize wr.heap.size = C at *
      have HDB : Hid (C + 1 = D ∧ w.heap.size ≤ C) := ⟨hCD, HVN.out.2⟩
      clear HL1 hCD
      cases far with
      | true =>
        have c2 : w3.cell? ⟨D, 2, none⟩ = some (.int .u16 29) := HD.out.1.cell 2
        have c6 : w3.cell? ⟨D, 6, none⟩ = some (.int .i64 ((n : Int) + 1)) := HD.out.1.cell 6
        have c7 : w3.cell? ⟨D, 7, none⟩ = some (.int .i64 ((k : Int) + 1)) := HD.out.1.cell 7
        have f2 := HD.out.1.free 2
        have f6 := HD.out.1.free 6
        have f7 := HD.out.1.free 7
        have V6 := HD.out.1.set 6 (.int .i64 ((k : Int) + 1))
        have K6a : w3.grownBy (w3.setCell ⟨D, 6, none⟩ (.int .i64 ((k : Int) + 1))) (some D) := grown_setCell (World.grownBy.refl _ _) _ _ (.inl rfl)
        have L6 := HD.out.2.1.other HD.out.1 HVN.out.1 rfl K6a
        have O6 := own_kept HD.out.2.2.1 K6a (own_vat HD.out.2.2.1 HD.out.1 ins_ne_b)
        have V7 := V6.set 7 (.int .i64 ((n : Int) + 1))
        have K7a : (w3.setCell ⟨D, 6, none⟩ (.int .i64 ((k : Int) + 1))).grownBy ((w3.setCell ⟨D, 6, none⟩ (.int .i64 ((k : Int) + 1))).setCell ⟨D, 7, none⟩ (.int .i64 ((n : Int) + 1))) (some D) := grown_setCell (World.grownBy.refl _ _) _ _ (.inl rfl)
        have L7 := L6.other V6 HVN.out.1 rfl K7a
        have O7 := own_kept O6 K7a (own_vat O6 V6 ins_ne_b)
        have V8 := V7.set 2 (.int .u16 45)
        have K8a : ((w3.setCell ⟨D, 6, none⟩ (.int .i64 ((k : Int) + 1))).setCell ⟨D, 7, none⟩ (.int .i64 ((n : Int) + 1))).grownBy (((w3.setCell ⟨D, 6, none⟩ (.int .i64 ((k : Int) + 1))).setCell ⟨D, 7, none⟩ (.int .i64 ((n : Int) + 1))).setCell ⟨D, 2, none⟩ (.int .u16 45)) (some D) := grown_setCell (World.grownBy.refl _ _) _ _ (.inl rfl)
        have L8 := L7.other V7 HVN.out.1 rfl K8a
        have O8 := own_kept O7 K8a (own_vat O7 V7 ins_ne_b)
        have hDw : ∀ x, some D = some x → w.heap.size ≤ x := fun x hx => by cases hx; have := HDB.out; omega
        have G8 := grown_trans_new (grown_trans_new (grown_trans_new HD.out.2.2.2.2 K6a hDw) K7a hDw) K8a hDw
        have HE : Hid (VAt (((w3.setCell ⟨D, 6, none⟩ (.int .i64 ((k : Int) + 1))).setCell ⟨D, 7, none⟩ (.int .i64 ((n : Int) + 1))).setCell ⟨D, 2, none⟩ (.int .u16 45)) D 47 #[.slice (some ⟨C, 0, none⟩) 2 2, .int .i64 3, .int .u16 45, .int .u8 0, .int .u8 0, .int .u32 0, .int .i64 ((k : Int) + 1), .int .i64 ((n : Int) + 1)] ∧ LV (((w3.setCell ⟨D, 6, none⟩ (.int .i64 ((k : Int) + 1))).setCell ⟨D, 7, none⟩ (.int .i64 ((n : Int) + 1))).setCell ⟨D, 2, none⟩ (.int .u16 45)) w.heap.size u8 xs ∧ (((w3.setCell ⟨D, 6, none⟩ (.int .i64 ((k : Int) + 1))).setCell ⟨D, 7, none⟩ (.int .i64 ((n : Int) + 1))).setCell ⟨D, 2, none⟩ (.int .u16 45)).ownsRow w.heap.size 45 4 (.slice (some ⟨C, 0, none⟩) 2 2) 2 (flat [⟨0, 0, 0, UInt32.ofNat k⟩, ⟨129, 0, 0, 0⟩]) ∧ gOf xs = rungs true n k ∧ w.grownBy (((w3.setCell ⟨D, 6, none⟩ (.int .i64 ((k : Int) + 1))).setCell ⟨D, 7, none⟩ (.int .i64 ((n : Int) + 1))).setCell ⟨D, 2, none⟩ (.int .u16 45)) none) := ⟨V8, L8, O8, HD.out.2.2.2.1, G8⟩
        clear V6 V7 V8 K6a K7a K8a L6 L7 L8 O6 O7 O8 G8 hDw HD
        go_upto_region 11 with fail
        generalize ((w3.setCell ⟨D, 6, none⟩ (.int .i64 ((k : Int) + 1))).setCell ⟨D, 7, none⟩ (.int .i64 ((n : Int) + 1))).setCell ⟨D, 2, none⟩ (.int .u16 45) = w5 at *
        clear c2 c6 c7 f2 f6 f7
        have HX : Hid ((Bv.cells ⟨rung true n k, some ⟨C, 0, none⟩, 2⟩).toArray = #[.slice (some ⟨C, 0, none⟩) 2 2, .int .i64 3, .int .u16 45, .int .u8 0, .int .u8 0, .int .u32 0, .int .i64 ((k : Int) + 1), .int .i64 ((n : Int) + 1)]) := by
          show Array.mk _ = _
          rfl
        have HSZ : Hid ((Try.prog.info? 47).map (·.size) = some (#[.slice (some ⟨C, 0, none⟩) 2 2, .int .i64 3, .int .u16 45, .int .u8 0, .int .u8 0, .int .u32 0, .int .i64 ((k : Int) + 1), .int .i64 ((n : Int) + 1)] : Array Value).size) := (by kernel_rfl : (Try.prog.info? 47).map (·.size) = some 8)
        have HLT : Hid (∀ W : World, (Instr.buildSlice 22 1 #[(0, .agg #[.slice (some ⟨C, 0, none⟩) 2 2, .int .i64 3, .int .u16 45, .int .u8 0, .int .u8 0, .int .u32 0, .int .i64 ((k : Int) + 1), .int .i64 ((n : Int) + 1)])]).run Try.prog W = .ok (.slice (some ⟨W.heap.size, 0, none⟩) 1 1) (W.alloc (.cells (Bv.cells ⟨rung true n k, some ⟨C, 0, none⟩, 2⟩).toArray 47))) := fun W => lit_blk ⟨rung true n k, some ⟨C, 0, none⟩, 2⟩ W
        obtain ⟨va, vc, hv⟩ := own_slice HE.out.2.1.1
        subst hv
        go_wp2_with (first | refine wpList_load_row rfl 47 (.tmp 10) rfl D rfl 47 #[.slice (some ⟨C, 0, none⟩) 2 2, .int .i64 3, .int .u16 45, .int .u8 0, .int .u8 0, .int .u32 0, .int .i64 ((k : Int) + 1), .int .i64 ((n : Int) + 1)] (0, 0) _ HE.out.1 Try.underlying47 rfl HSZ.out ?_ | (refine wpList_lit (by rfl) 22 1 _ rfl #[(0, .agg #[.slice (some ⟨C, 0, none⟩) 2 2, .int .i64 3, .int .u16 45, .int .u8 0, .int .u8 0, .int .u32 0, .int .i64 ((k : Int) + 1), .int .i64 ((n : Int) + 1)])] (by kernel_rfl) (Bv.cells ⟨rung true n k, some ⟨C, 0, none⟩, 2⟩) 47 HLT.out ?_; intro V6 w6 C6 K6) | (at_builtin; refine wpList_append_own2 rfl (.tmp 42) (.tmp 44) 22 22 rfl 47 i0 _ 8 56 Try.underlying22 Try.underlying22 hi hz0 hz1 hz2 rfl (by decide) w.heap.size _ xs.length (flatB xs) rfl ?q1true ⟨V6, 0, none⟩ 1 1 (flatB [⟨rung true n k, some ⟨C, 0, none⟩, 2⟩]) rfl rfl ?q2true ?q3true ?q4true ?q5true ?q6true ?q7true) | fail)
        case q1true => exact owns_keptNone HE.out.2.1.1 K6
        case q2true => rw [flatB_cons, flatB_nil, List.append_nil]; exact C6
        case q3true => exact flatB_one _
        case q4true => have := HLN.out; unfold maxLen; omega
        case q5true => have := HLN.out; omega
        case q6true => exact Nat.le_trans HE.out.2.2.2.2.size K6.size
        case q7true =>
          intro v7 w7 O7 K7 B7
          have HR : Hid (∃ ys : List Bv, LV w7 w.heap.size v7 ys ∧ gOf ys = rungs true n (k + 1) ∧ w.grownBy w7 none) := by
            refine ⟨xs ++ [⟨rung true n k, some ⟨C, 0, none⟩, 2⟩], (HE.out.2.1.kept K6).app (fun y hy => ?_) (by simpa using O7) K7, ?_, grown_trans_new (grown_trans HE.out.2.2.2.2 K6) K7 (fun z hz => (HE.out.2.1.1.lt z hz).1)⟩
            · simp only [List.mem_singleton] at hy
              subst hy
              have := owns_keptNone HE.out.2.2.1 K6
              rw [← rung_code true n k] at this
              exact this
            · rw [gOf, List.map_append, rungs_succ]
              have := HE.out.2.2.2.1
              rw [gOf] at this
              rw [this]
              rfl
          clear O7 K7 B7 C6 K6 HE HX HLT HSZ
          go_wp2
          go_roundw
          case rel => exact ⟨k + 1, by omega, by go_num, HR.out⟩
          case measure => simp [intOf]; omega
      | false =>
        have HE := HD
        clear HD
        go_upto_region 11 with fail
        have HX : Hid ((Bv.cells ⟨rung false n k, some ⟨C, 0, none⟩, 2⟩).toArray = #[.slice (some ⟨C, 0, none⟩) 2 2, .int .i64 3, .int .u16 29, .int .u8 0, .int .u8 0, .int .u32 0, .int .i64 ((n : Int) + 1), .int .i64 ((k : Int) + 1)]) := by
          show Array.mk _ = _
          rfl
        have HSZ : Hid ((Try.prog.info? 47).map (·.size) = some (#[.slice (some ⟨C, 0, none⟩) 2 2, .int .i64 3, .int .u16 29, .int .u8 0, .int .u8 0, .int .u32 0, .int .i64 ((n : Int) + 1), .int .i64 ((k : Int) + 1)] : Array Value).size) := (by kernel_rfl : (Try.prog.info? 47).map (·.size) = some 8)
        have HLT : Hid (∀ W : World, (Instr.buildSlice 22 1 #[(0, .agg #[.slice (some ⟨C, 0, none⟩) 2 2, .int .i64 3, .int .u16 29, .int .u8 0, .int .u8 0, .int .u32 0, .int .i64 ((n : Int) + 1), .int .i64 ((k : Int) + 1)])]).run Try.prog W = .ok (.slice (some ⟨W.heap.size, 0, none⟩) 1 1) (W.alloc (.cells (Bv.cells ⟨rung false n k, some ⟨C, 0, none⟩, 2⟩).toArray 47))) := fun W => lit_blk ⟨rung false n k, some ⟨C, 0, none⟩, 2⟩ W
        obtain ⟨va, vc, hv⟩ := own_slice HE.out.2.1.1
        subst hv
        go_wp2_with (first | refine wpList_load_row rfl 47 (.tmp 10) rfl D rfl 47 #[.slice (some ⟨C, 0, none⟩) 2 2, .int .i64 3, .int .u16 29, .int .u8 0, .int .u8 0, .int .u32 0, .int .i64 ((n : Int) + 1), .int .i64 ((k : Int) + 1)] (0, 0) _ HE.out.1 Try.underlying47 rfl HSZ.out ?_ | (refine wpList_lit (by rfl) 22 1 _ rfl #[(0, .agg #[.slice (some ⟨C, 0, none⟩) 2 2, .int .i64 3, .int .u16 29, .int .u8 0, .int .u8 0, .int .u32 0, .int .i64 ((n : Int) + 1), .int .i64 ((k : Int) + 1)])] (by kernel_rfl) (Bv.cells ⟨rung false n k, some ⟨C, 0, none⟩, 2⟩) 47 HLT.out ?_; intro V6 w6 C6 K6) | (at_builtin; refine wpList_append_own2 rfl (.tmp 42) (.tmp 44) 22 22 rfl 47 i0 _ 8 56 Try.underlying22 Try.underlying22 hi hz0 hz1 hz2 rfl (by decide) w.heap.size _ xs.length (flatB xs) rfl ?q1false ⟨V6, 0, none⟩ 1 1 (flatB [⟨rung false n k, some ⟨C, 0, none⟩, 2⟩]) rfl rfl ?q2false ?q3false ?q4false ?q5false ?q6false ?q7false) | fail)
        case q1false => exact owns_keptNone HE.out.2.1.1 K6
        case q2false => rw [flatB_cons, flatB_nil, List.append_nil]; exact C6
        case q3false => exact flatB_one _
        case q4false => have := HLN.out; unfold maxLen; omega
        case q5false => have := HLN.out; omega
        case q6false => exact Nat.le_trans HE.out.2.2.2.2.size K6.size
        case q7false =>
          intro v7 w7 O7 K7 B7
          have HR : Hid (∃ ys : List Bv, LV w7 w.heap.size v7 ys ∧ gOf ys = rungs false n (k + 1) ∧ w.grownBy w7 none) := by
            refine ⟨xs ++ [⟨rung false n k, some ⟨C, 0, none⟩, 2⟩], (HE.out.2.1.kept K6).app (fun y hy => ?_) (by simpa using O7) K7, ?_, grown_trans_new (grown_trans HE.out.2.2.2.2 K6) K7 (fun z hz => (HE.out.2.1.1.lt z hz).1)⟩
            · simp only [List.mem_singleton] at hy
              subst hy
              have := owns_keptNone HE.out.2.2.1 K6
              rw [← rung_code false n k] at this
              exact this
            · rw [gOf, List.map_append, rungs_succ]
              have := HE.out.2.2.2.1
              rw [gOf] at this
              rw [this]
              rfl
          clear O7 K7 B7 C6 K6 HE HX HLT HSZ
          go_wp2
          go_roundw
          case rel => exact ⟨k + 1, by omega, by go_num, HR.out⟩
          case measure => simp [intOf]; omega
    · have hl : ¬ (k : Int) < (n : Int) := by omega
      have ek : k = n := by omega
      subst ek
      obtain ⟨j0, hj, jz0, jz1, jz2⟩ := info_parts info5
      have HLN : Hid (xs.length ≤ 1200) := by
        have := congrArg List.length hg1
        rw [gOf_len, rungs_len] at this
        show xs.length ≤ 1200
        omega
      have HL1 : Hid (LV wr w.heap.size u8 xs ∧ gOf xs = rungs far k k ∧ w.grownBy wr none) := ⟨L1, hg1, G1⟩
      obtain ⟨va, vc, hv⟩ := own_slice L1.1
      subst hv
      clear L1 hg1 G1
      go_wp2_with (first | (refine wpList_lit (by rfl) 22 2 _ rfl #[(0, .agg (Bv.cells ⟨bE1, none, 0⟩).toArray), (1, .agg (Bv.cells ⟨bE2, none, 0⟩).toArray)] (by kernel_rfl) (flatB [⟨bE1, none, 0⟩, ⟨bE2, none, 0⟩]) 47 (lit_two _ _) ?_; intro V6 w6 C6 K6) | (at_builtin; refine wpList_append_own2 rfl (.tmp 46) (.tmp 51) 22 22 rfl 47 i0 _ 8 56 Try.underlying22 Try.underlying22 hi hz0 hz1 hz2 rfl (by decide) w.heap.size _ xs.length (flatB xs) rfl ?s1 ⟨V6, 0, none⟩ 2 2 (flatB [⟨bE1, none, 0⟩, ⟨bE2, none, 0⟩]) rfl rfl C6 ?s3 ?s4 ?s5 ?s6 ?s7) | fail)
      case s1 => exact owns_keptNone HL1.out.1.1 K6
      case s3 => exact flatB_one _
      case s4 => have := HLN.out; unfold maxLen; omega
      case s5 => have := HLN.out; omega
      case s6 => exact Nat.le_trans HL1.out.2.2.size K6.size
      case s7 =>
      intro v7 w7 O7 K7 B7
      have HL7 : Hid (LV w7 w.heap.size v7 (xs ++ [⟨bE1, none, 0⟩, ⟨bE2, none, 0⟩]) ∧ gOf (xs ++ [⟨bE1, none, 0⟩, ⟨bE2, none, 0⟩]) = gL far k ∧ w.grownBy w7 none) := by
        refine ⟨(HL1.out.1.kept K6).app (fun y hy => ?_) O7 K7, ?_, grown_trans_new (grown_trans HL1.out.2.2 K6) K7 (fun z hz => (HL1.out.1.1.lt z hz).1)⟩
        · simp only [List.mem_cons, List.not_mem_nil, or_false] at hy
          rcases hy with rfl | rfl <;> exact World.ownsRow_nil _ _ _ _
        · rw [gOf, List.map_append]
          have := HL1.out.2.1
          rw [gOf] at this
          rw [this]
          rfl
      clear O7 K7 B7 C6 K6 HL1 hi hz0 hz1 hz2
      obtain ⟨zs, hzs⟩ : ∃ zs, xs ++ [(⟨bE1, none, 0⟩ : Bv), ⟨bE2, none, 0⟩] = zs := ⟨_, rfl⟩
      rw [hzs] at HL7
      have hzl : zs.length ≤ 1202 := by rw [← hzs]; have := HLN.out; simp; omega
      clear hzs HLN
      obtain ⟨za, zc, hv7, gc7⟩ := HL7.out.1.gc
      subst hv7
      have hxl : ∀ x ∈ zs, x.b.code.length ≤ 4096 := fun x hx => by
        have h1 : x.b ∈ gL far k := by rw [← HL7.out.2.1]; exact List.mem_map.2 ⟨x, hx, rfl⟩
        have h2 := (taken_L far k hn2).room
        have h3 : ∀ (l : List Bk), x.b ∈ l → x.b.code.length ≤ codeLen l := by
          intro l
          induction l with
          | nil => intro h; simp at h
          | cons c r ih =>
            intro h
            have := codeLen_cons c r
            rcases List.mem_cons.1 h with h | h
            · rw [h]; omega
            · have := ih h; omega
        have := h3 _ h1
        omega
      have HGC : Hid (GC w7 za zs ∧ (∀ x ∈ zs, x.b.code.length ≤ 4611686018427387904) ∧ gOf zs = gL far k) := ⟨gc7, fun x hx => by have := hxl x hx; omega, HL7.out.2.1⟩
      have CB := bcopy_any za zc zs w7 gc7 (by omega) (fun x hx => by have := hxl x hx; omega)
      have G7 := HL7.out.2.2
      clear gc7 hxl HL7
      go_wp2_with fail
      refine CB.mono ?_
      rintro e w8 ⟨v8, ys, rfl, B8, hy, K8⟩
      obtain ⟨a8, c8, rfl, gc8, -⟩ := B8.gc
      have CL := linear_any a8 c8 ys w8 gc8 (fun y hyy => by
        have h1 : y.b ∈ gOf zs := by rw [← hy]; exact List.mem_map.2 ⟨y, hyy, rfl⟩
        obtain ⟨x, hx, hxb⟩ := List.mem_map.1 h1
        rw [← hxb]
        exact HGC.out.2.1 x hx)
      rw [hy, HGC.out.2.2] at CL
      have G8 := grown_trans G7 K8
      have HK8 : Hid (w7.grownBy w8 none) := K8
      clear CB B8 gc8 hy K8 G7
      have m1 : IntKind.i64.wrap (5 * (k : Int)) = 5 * (k : Int) := by rw [IntKind.wrap_i64]; omega
      have m2 : IntKind.i64.wrap (5 * (k : Int) + 2) = 5 * (k : Int) + 2 := by rw [IntKind.wrap_i64]; omega
      by_cases hlong : 4096 < 5 * k + 2
      · have hlong' : (4096 : Int) < 5 * (k : Int) + 2 := by omega
        rw [(HF.out.1 hlong).1, (HF.out.1 hlong).2] at CL
        go_wp2_with fail
        refine CL.mono ?_
        rintro e w9 ⟨v9, rfl, O9, K9⟩
        obtain ⟨a9, c9, rfl⟩ := own_slice O9
        simp only [List.length_nil]
        clear CL O9
        go_wp2_with fail
        refine (awake18_any _).mono ?_
        rintro e w10 ⟨rfl, K10⟩
        go_wp2
        go_ret
        exact ⟨rfl, grown_trans G8 (grown_trans K9 K10)⟩
      · have hlong' : ¬ (4096 : Int) < 5 * (k : Int) + 2 := by omega
        have HFS := HF.out.2 hlong
        rw [HFS.1] at CL
        have HS : Hid (∀ pk : List UInt8, pk.length ≤ 65536 → runE (linG (gL far k)) pk = 0 ∧ runGE (gL far k) pk = 0 ∧ SimR (runV (linG (gL far k)) pk) (runG (gL far k) pk)) := HFS.2
        clear HFS HF
        go_wp2_with fail
        refine CL.mono ?_
        rintro e w9 ⟨v9, rfl, O9, K9⟩
        obtain ⟨a9, c9, rfl⟩ := own_slice O9
        have HO9 : Hid (CV w9 a9 (flat (linG (gL far k)))) := by
          obtain ⟨y1, y2, y3, y4, -⟩ := cv_of_row O9
          injection y3 with e
          subst e
          exact y4
        have G9 := grown_trans G8 K9
        have HK9 : Hid (w7.grownBy w9 none) := grown_trans HK8.out K9
        clear CL O9 K9 G8 HK8
        have HSM : Hid (∀ (W : World) (c : Option Addr) (cc : Nat) (qk : List UInt8), w9.grownBy W none → Cells W c qk → qk.length ≤ 65536 → Calls Try.prog 18 #[.slice za zs.length zc, .slice a9 (linG (gL far k)).length c9, .slice c qk.length cc] W fun e w' => e = .returned (.bool true) ∧ W.grownBy w' none) := fun W c cc qk G hc hq => by
          have hs := HS.out qk hq
          rw [← HGC.out.2.2] at hs ⊢
          exact same18_any za a9 c zc c9 cc zs (linG (gOf zs)) qk W (HGC.out.1.keptNone (grown_trans HK9.out G)) HGC.out.2.1 (by rw [HGC.out.2.2]; exact HO9.out.keptNone G) hc hq hs.1 hs.2.1 hs.2.2
        generalize (linG (gL far k)).length = PL at *
        clear HGC HS HO9 HK9
        by_cases hp : 65536 < pk.length
        · have hp' : (65536 : Int) < (pk.length : Int) := by omega
          go_wp2_with fail
          refine (awake18_any _).mono ?_
          rintro e w10 ⟨rfl, K10⟩
          go_wp2
          go_ret
          exact ⟨rfl, grown_trans G9 K10⟩
        · have hp' : ¬ (65536 : Int) < (pk.length : Int) := by omega
          have d1 : (k : Int).tdiv 2 = ((k / 2 : Nat) : Int) := by rw [Int.tdiv_eq_ediv_of_nonneg (by omega)]; omega
          have d3 : (k : Int) - 1 = ((k - 1 : Nat) : Int) := by omega
          have d2 : IntKind.i64.wrap ((k : Int) - 1) = ((k - 1 : Nat) : Int) := by rw [IntKind.wrap_i64]; omega
          have HSN : Hid (∀ (W : World) (g m : Nat), w9.grownBy W none → W.ownsRow w.heap.size 5 1 (.slice (some ⟨g, 0, none⟩) m m) m (List.replicate m (.int .u8 0)) → m ≤ 65536 → Calls Try.prog 18 #[.slice za zs.length zc, .slice a9 PL c9, .slice (some ⟨g, 0, none⟩) m m] W fun e w' => e = .returned (.bool true) ∧ W.grownBy w' none) := fun W g m G O hm => by
            have := HSM.out W (some ⟨g, 0, none⟩) m (List.replicate m 0) G (made_cells O) (by simpa using hm)
            rw [List.length_replicate] at this
            exact this
          go_wp2_with fail
          refine (HSM.out w9 b cb pk (World.grownBy.refl _ _) (HP.out.keptNone G9) (by omega)).mono ?_
          rintro e w10 ⟨rfl, K10⟩
          go_wp2_with (first | (at_make; refine wpList_make_want _ (by rfl) (.tmp 89) (.tmp 89) 38 rfl w.heap.size 5 j0 (.int .u8 0) 1 Try.underlying38 hj jz0 jz1 .i64 .i64 ((k / 2 : Nat) : Int) ((k / 2 : Nat) : Int) ((k / 2 : Nat)) (by first | rfl | (simp [Act.eval]; done)) (by first | rfl | (simp [Act.eval]; done)) rfl rfl ?t1 ?t2 ?t3 ?t4) | fail)
          case t1 => rw [jz2]; omega
          case t2 => unfold maxLen; omega
          case t3 => exact Nat.le_trans G9.size K10.size
          case t4 =>
          intro w11 O11 L11
          rw [toList_madeCells_one] at O11
          have K11 := grown_trans K10 L11
          have HC11 : Hid (Calls Try.prog 18 #[.slice za zs.length zc, .slice a9 PL c9, .slice (some ⟨w10.heap.size, 0, none⟩) ((k / 2 : Nat)) ((k / 2 : Nat))] w11 fun e w' => e = .returned (.bool true) ∧ w11.grownBy w' none) := HSN.out w11 _ _ K11 O11 (by omega)
          clear O11 L11
          go_wp2_with fail
          refine HC11.out.mono ?_
          rintro e w12 ⟨rfl, M12⟩
          have K12 := grown_trans K11 M12
          clear K11 M12 K10 HC11
          go_wp2_with (first | (at_make; refine wpList_make_want _ (by rfl) (.tmp 97) (.tmp 97) 38 rfl w.heap.size 5 j0 (.int .u8 0) 1 Try.underlying38 hj jz0 jz1 .i64 .i64 ((k - 1 : Nat) : Int) ((k - 1 : Nat) : Int) ((k - 1 : Nat)) (by first | rfl | (simp [Act.eval]; done)) (by first | rfl | (simp [Act.eval]; done)) rfl rfl ?u1 ?u2 ?u3 ?u4) | fail)
          case u1 => rw [jz2]; omega
          case u2 => unfold maxLen; omega
          case u3 => exact Nat.le_trans G9.size K12.size
          case u4 =>
          intro w13 O13 L13
          rw [toList_madeCells_one] at O13
          have K13 := grown_trans K12 L13
          have HC13 : Hid (Calls Try.prog 18 #[.slice za zs.length zc, .slice a9 PL c9, .slice (some ⟨w12.heap.size, 0, none⟩) ((k - 1 : Nat)) ((k - 1 : Nat))] w13 fun e w' => e = .returned (.bool true) ∧ w13.grownBy w' none) := HSN.out w13 _ _ K13 O13 (by omega)
          clear O13 L13
          go_wp2_with fail
          refine HC13.out.mono ?_
          rintro e w14 ⟨rfl, M14⟩
          have K14 := grown_trans K13 M14
          clear K13 M14 K12 HC13
          go_wp2_with (first | (at_make; refine wpList_make_want _ (by rfl) (.tmp 104) (.tmp 104) 38 rfl w.heap.size 5 j0 (.int .u8 0) 1 Try.underlying38 hj jz0 jz1 .i64 .i64 ((k : Nat) : Int) ((k : Nat) : Int) ((k : Nat)) (by first | rfl | (simp [Act.eval]; done)) (by first | rfl | (simp [Act.eval]; done)) rfl rfl ?v1 ?v2 ?v3 ?v4) | fail)
          case v1 => rw [jz2]; omega
          case v2 => unfold maxLen; omega
          case v3 => exact Nat.le_trans G9.size K14.size
          case v4 =>
          intro w15 O15 L15
          rw [toList_madeCells_one] at O15
          have K15 := grown_trans K14 L15
          have HC15 : Hid (Calls Try.prog 18 #[.slice za zs.length zc, .slice a9 PL c9, .slice (some ⟨w14.heap.size, 0, none⟩) ((k : Nat)) ((k : Nat))] w15 fun e w' => e = .returned (.bool true) ∧ w15.grownBy w' none) := HSN.out w15 _ _ K15 O15 (by omega)
          clear O15 L15
          go_wp2_with fail
          refine HC15.out.mono ?_
          rintro e w16 ⟨rfl, M16⟩
          have K16 := grown_trans K15 M16
          clear K15 M16 K14 HC15
          go_wp2_with fail
          refine (awake18_any _).mono ?_
          rintro e w17 ⟨rfl, K17⟩
          go_wp2
          go_ret
          exact ⟨rfl, grown_trans G9 (grown_trans K16 K17)⟩

set_option maxRecDepth 100000 in
theorem lifted (os : Os) (started : os.Started) (H : Type) (enc : TypeId × Value → H) :
    ReturnsInHanded {} Try.checked os 6 .any (Rows.lineLadderSpec.pre6 enc Try.prog Try.f6 Rows.lineLadderRow.domain false) (Rows.lineLadderSpec.post enc Try.prog Try.f6 false true false false) := by
  refine returnsInHanded_of_change_sized (C := Try.checked) own started (by kernel_rfl) Try.func6
    (ChangeSpec.witness6 (enc := enc) (C := Try.checked) false ⟨#[], #[.int .i64 0, .bool false, .slice none 0 0], []⟩ 8 (by kernel_rfl) (by kernel_rfl) (by kernel_rfl) (by kernel_rfl)) ?_
  intro W base args ds gs before hval0 hW hcnd hsz0 _
  have hsz : (DataW.weightsEach Try.prog (Try.f6.params.toList ++ Rows.lineLadderSpec.plain.varTypes Try.prog) (ds ++ gs)).all (· ≤ reachBytes) = true := hsz0
  have hval : ∀ (j : Nat) t v, Try.f6.params[j]? = some t → args[j]? = some v → Value.okWide Try.prog W .any base t v := hval0
  have hW' := hW
  obtain ⟨p, q, hA0, hV, rfl, hfz, hnd⟩ := hW
  have hA : DataW.TrodAll enc Try.prog W 0 (fun _ => true) true Try.f6.params.toList args.toList ds p := hA0
  rw [Try.params6] at hA hval hsz
  obtain ⟨v0, vs0, d0, ds0, p0, q0, hargs, rfl, rfl, h0, r0⟩ := trodAll_cons hA
  obtain ⟨v1, vs1, d1, ds1, p1, q1, rfl, rfl, rfl, h1, r1⟩ := trodAll_cons r0
  obtain ⟨v2, vs2, d2, ds2, p2, q2, rfl, rfl, rfl, h2, r2⟩ := trodAll_cons r1
  obtain ⟨rfl, rfl, rfl⟩ := trodAll_nil r2
  obtain rfl : args = #[v0, v1, v2] := by cases args; simp_all
  obtain ⟨rfl, rfl⟩ := trodVars_none hV
  obtain ⟨x0, rfl, rfl, rfl, w0⟩ := open_int Try.underlying3 (hval 0 3 v0 rfl rfl) h0
  obtain ⟨x1, rfl, rfl, rfl⟩ := open_bool Try.underlying4 (hval 1 4 v1 rfl rfl) h1
  obtain ⟨a2, len2, cap2, rfl⟩ := okWide_slice Try.underlying38 (hval 2 38 v2 rfl rfl)
  have k2 := h2
  have lt2 : ∀ x ∈ p2, x.block < W.heap.size := by obtain ⟨m, hm⟩ := k2; exact DataW.trod_lt m _ _ _ hm
  obtain ⟨xs2, rfl, hcells2, hnil2, hdat2⟩ := open_bytes Try.underlying38 Try.underlying5 (by kernel_rfl) h2
  have hlen2 : xs2.length * 1 ≤ 140737488351232 := by
    rcases hdat2 with ⟨_, rfl⟩ | ⟨elems, spare, rfl, hle⟩
    · simp
    · have := sized_slice hsz (j := 2) (t := 38) (e := 5) rfl rfl Try.underlying38
      rw [bytes5] at this
      unfold reachBytes at this
      omega
  clear hA0 hval0
  refine (walk x0 x1 a2 cap2 xs2 W hcells2 hnil2 (by omega)).mono fun e W' ⟨he, hg⟩ => ?_
  subst he
  have bel : Below W.heap.size W W' := (Below.refl _ _).grown hg (Nat.le_refl _) (by simp)
  exact ⟨_, rfl, _, _, _, [], _, [], hW', trodAll_mk1 (shut_bool Try.underlying4 _), (trodAll_cons_mk (shut_int Try.underlying3 w0) (trodAll_cons_mk (shut_bool Try.underlying4 x1) (trodAll_cons_mk (Below.trod laidOut (by kernel_rfl) (of_decide_eq_true (by kernel_rfl)) k2 bel lt2) trodAll_mk0))), rfl, bel.frame _, fun h => by cases h⟩

theorem over : Rows.LineLadderSaid :=
  OpenClaim.holds_of_wide 6 Try.f6 rfl rfl rfl rfl rfl rfl rfl ⟨rfl, rfl, rfl, rfl, rfl⟩ rfl rfl rfl rfl rfl (by kernel_rfl) Try.func6 (by kernel_rfl)
    (of_decide_eq_true (by kernel_rfl)) (by unfold Func.isWrapper; first | (rw [if_pos (by decide +kernel)]; kernel_rfl) | (rw [if_neg (by decide +kernel)]; exact ⟨rfl, rfl⟩))
    (fun os started H enc _ => lifted os started H enc)

end lineLadder

theorem lineLadder_holds : Rows.LineLadderSaid := lineLadder.over
#print axioms lineLadder_holds

end Go.Proofs.Ytelgfegkobkhiaa
