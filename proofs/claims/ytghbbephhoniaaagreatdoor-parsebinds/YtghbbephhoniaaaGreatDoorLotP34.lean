import Derived.Test.YtghbbephhoniaaaGreatDoorLotP17
import Derived.Test.YtghbbephhoniaaaGreatDoorShF
import Derived.Test.YtghbbephhoniaaaGreatDoorLotP6
import Derived.Test.YtghbbephhoniaaaGreatDoorLotP1
import Derived.Test.YtghbbephhoniaaaGreatDoorLotP13
import Derived.Deep.DeepCutAuto
import Derived.Test.YtghbbephhoniaaaGreatDoorLotP4
import Derived.Test.YtghbbephhoniaaaGreatDoorLotP2
import Derived.Test.YtghbbephhoniaaaGreatDoorLotP14
namespace Go.Proofs.YtghbbephhoniaaaGreatDoor
open Go.RowKit
set_option maxRecDepth 100000
def dcT (n : Nat) : Tr := .two eqN (.leaf lnN) (.leaf (nmN n))
theorem dc_flat (n : Nat) : (dcT n).flat = [lnN, nmN n, eqN] := rfl
theorem dc_ok (n : Nat) : (checkG [lnN, nmN n, eqN]).2 = 0 := by
 have hkE : kindE eqN.kind [⟨false, false, 0⟩, cp n] = 0 := kindE_none (fun z hz => by
  rcases List.mem_cons.1 hz with rfl | hz
  ·rfl
  ·rw [List.mem_singleton.1 hz]; rfl)
 have h0 : faultG eqN [⟨false, false, 0⟩, cp n] = 0 := by
  unfold faultG
  rw [show formG eqN = true by kernel_rfl, hkE]
  rfl
 have hr : stepG eqN [⟨false, false, 0⟩, cp n] = .ok [joinG eqN [⟨false, false, 0⟩, cp n]] := by rw [stepG_good (a := 2) rfl (by simp) (by simpa using h0)]; rfl
 have hw : walkG [] 0 [lnN, nmN n, eqN] = .ok [joinG eqN [⟨false, false, 0⟩, cp n]] := by
  simp only [walkG, step_ln, step_nm, List.nil_append, List.cons_append]
  rw [hr]
 refine filt_iff.2 ⟨_, hw, by rw [joinG_truth]; rfl, ?_⟩
 have : weightG [lnN, nmN n, eqN] ≤ 20 := by simp [weightG, weighG, lnN, nmN, eqN]
 omega
theorem dc_show (n : Nat) : showR false (dcT n) = .tuple #[str ([108, 101, 110, 32, 61, 32] ++ dec n), .int .i64 0] := rfl
theorem dc_cut (n : Nat) : (⟨([108, 101, 110, 32, 61, 32] ++ dec n).toArray⟩ : ByteArray).extract 6 ([108, 101, 110, 32, 61, 32] ++ dec n).length = ⟨(dec n).toArray⟩ := by
 apply ByteArray.ext
 simp
theorem dc_lit (n : Nat) (W : World) : (Instr.buildSlice 31 3 #[(0, .agg lnN.cells.toArray), (1, .agg (nmN n).cells.toArray), (2, .agg eqN.cells.toArray)]).run Tryz.prog W = .ok (.slice (some ⟨W.heap.size, 0, none⟩) 3 3) (W.alloc (.cells (flatG [lnN, nmN n, eqN]).toArray 28)) := by kernel_rfl
set_option maxRecDepth 100000 in
set_option maxHeartbeats 16000000 in
theorem dec11_any (n : Nat) (hn : n ≤ 4294967295) (w : World) : Calls Tryz.prog 6 #[.int .u32 (n : Int)] w fun e w' => e = .returned (str (dec n)) ∧ w.grownBy w' none := by
 have HS : Hid (∀ (ad : Addr) (W : World), CV W (some ad) (flatG [lnN, nmN n, eqN]) → Calls Tryz.prog 11 #[.slice (some ad) 3 3, .bool false] W fun e w' => e = .returned (.tuple #[str ([108, 101, 110, 32, 61, 32] ++ dec n), .int .i64 0]) ∧ W.grownBy w' none) := fun ad W C => by
  have := refshow_of (some ad) 3 [lnN, nmN n, eqN] false (fun x hx => by
   simp only [List.mem_cons, List.not_mem_nil, or_false] at hx
   rcases hx with rfl | rfl | rfl
   ·exact fun ps ao cap w C ha hn hv => node_o lnN ps ao cap w C ha hn hv (by decide)
   ·exact fun ps ao cap w C ha hn hv => node_1 (nmN n) ps ao cap w C ha hn hv rfl
   ·exact fun ps ao cap w C ha hn hv => node_o eqN ps ao cap w C ha hn hv (by decide)) (fun x hx => by
   intro ps ao cap w C ha h0 hf hr hb
   simp only [List.mem_cons, List.not_mem_nil, or_false] at hx
   rcases hx with rfl | rfl | rfl
   ·exact absurd (Option.some.inj (ha.symm.trans (show arG lnN.kind = some 0 from rfl))) (fun h => h0 (List.length_eq_zero_iff.1 h))
   ·exact absurd (Option.some.inj (ha.symm.trans (show arG (nmN n).kind = some 0 from rfl))) (fun h => h0 (List.length_eq_zero_iff.1 h))
   ·have hl : ps.length = 2 := Option.some.inj (ha.symm.trans (show arG eqN.kind = some 2 from rfl))
    match ps, hl, C, hb with
    | [p, q], _, C, hb => exact over_two_f eqN p q ao cap w C (.inr (.inr (.inl ⟨rfl, by decide, by decide⟩))) (hb p (by simp)).1 (hb p (by simp)).2 (hb q (by simp)).1 (hb q (by simp)).2) (dcT n) ⟨rfl, rfl, rfl⟩ (dc_flat n) W C (dc_ok n) (fun x hx => by
   simp only [List.mem_cons, List.not_mem_nil, or_false] at hx
   rcases hx with rfl | rfl | rfl
   ·decide
   ·exact hn
   ·decide) (fun x hx => by
   simp only [List.mem_cons, List.not_mem_nil, or_false] at hx
   rcases hx with rfl | rfl | rfl
   ·decide
   ·exact Nat.zero_le _
   ·decide)
  rw [dc_show] at this
  exact this
 have HB1 : Hid (∀ W : World, (Instr.build 28 #[(0, .int .i64 2)]).run Tryz.prog W = .ok (.agg lnN.cells.toArray) W) := fun W => by kernel_rfl
 have HB2 : Hid (∀ W : World, (Instr.build 28 #[(0, .int .i64 1), (2, .int .u32 (n : Int))]).run Tryz.prog W = .ok (.agg (nmN n).cells.toArray) W) := fun W => by kernel_rfl
 have HB3 : Hid (∀ W : World, (Instr.build 28 #[(0, .int .i64 6), (1, .int .i64 1)]).run Tryz.prog W = .ok (.agg eqN.cells.toArray) W) := fun W => by kernel_rfl
 have HL : Hid (∀ W : World, _) := dc_lit n
 have HC := dc_cut n
 have hl : (([108, 101, 110, 32, 61, 32] : List UInt8) ++ dec n).length ≤ 26 := by have := dec_len n; simp; omega
 have hl6 : 6 ≤ (([108, 101, 110, 32, 61, 32] : List UInt8) ++ dec n).length := by simp
 obtain ⟨X, hX⟩ : ∃ X, lnN.cells.toArray = X := ⟨_, rfl⟩
 obtain ⟨Y, hY⟩ : ∃ Y, (nmN n).cells.toArray = Y := ⟨_, rfl⟩
 obtain ⟨Z, hZ⟩ : ∃ Z, eqN.cells.toArray = Z := ⟨_, rfl⟩
 rw [hX] at HB1 HL
 rw [hY] at HB2 HL
 rw [hZ] at HB3 HL
 clear hX hY hZ
 go_enter Tryz.func6, Tryz.ntmps6
 go_wp2_with (first | refine wpList_bld rfl 28 #[(0, .const (.int .i64 2))] rfl _ (by kernel_rfl) (.agg X) HB1.out ?_ | refine wpList_bld rfl 28 #[(0, .const (.int .i64 1)), (2, .tmp 7)] rfl _ (by kernel_rfl) (.agg Y) HB2.out ?_ | refine wpList_bld rfl 28 #[(0, .const (.int .i64 6)), (1, .const (.int .i64 1))] rfl _ (by kernel_rfl) (.agg Z) HB3.out ?_ | (refine wpList_lit (by rfl) 31 3 _ rfl _ (by kernel_rfl) (flatG [lnN, nmN n, eqN]) 28 HL.out ?_; intro ad w2 C2 K2))
 refine (HS.out _ _ C2).mono ?_
 rintro e w3 ⟨rfl, K3⟩
 have G3 := grown_trans K2 K3
 clear C2 K2 K3 HS HL HB1 HB2 HB3
 obtain ⟨S, hS⟩ : ∃ S, (([108, 101, 110, 32, 61, 32] : List UInt8) ++ dec n) = S := ⟨_, rfl⟩
 rw [hS] at HC hl hl6 ⊢
 clear hS
 have hz : (⟨S.toArray⟩ : ByteArray).size = S.length := by simp [ByteArray.size]
 go_wp2
 go_ret
 exact ⟨rfl, G3⟩
def lowV (x : Int) : Nat := (BitVec.ofInt IntKind.i64.bits x).toNat % 2 ^ 63
theorem lowV_lt (x : Int) : lowV x < 2 ^ 63 := Nat.mod_lt _ (by decide)
theorem low_bits (x : Int) : bits .and .i64 x 9223372036854775807 = (lowV x : Int) := by
 have hm : (9223372036854775807 : Int) = ((2 ^ 63 - 1 : Nat) : Int) := by decide
 rw [hm]
 have h64 : IntKind.i64.bits = 64 := rfl
 simp only [bits, BitVec.ofInt_natCast, BitVec.toNat_and, BitVec.toNat_ofNat, h64]
 rw [show (2 ^ 63 - 1) % 2 ^ 64 = 2 ^ 63 - 1 by decide, Nat.and_two_pow_sub_one_eq_mod]
 have h := lowV_lt x
 unfold lowV at h ⊢
 generalize (BitVec.ofInt IntKind.i64.bits x).toNat % 2 ^ 63 = n at *
 rw [IntKind.wrap_i64]
 omega
set_option maxHeartbeats 400000 in
theorem low_any (x : Int) (w : World) : Calls Tryz.prog 4 #[.int .i64 x] w fun e w' => e = .returned (.int .i64 (lowV x : Int)) ∧ w = w' := by
 go_enter Tryz.func4, Tryz.ntmps4
 go_wp2
 go_ret
 exact ⟨ret_int (low_bits x), rfl⟩
theorem sl_get (s : ByteArray) (k : Nat) (hk : k < s.size) : (sl s)[k]? = some s[k] := by
 have := sl_drop s k hk
 have h2 : ((sl s).drop k)[0]? = some s[k] := by rw [this]; rfl
 simpa using h2
def tkA (q p : Nat) (t : List UInt8) (n : Nat) : Array Value := #[.int .i64 (q : Int), .int .i64 (p : Int), str t, .int .u32 (n : Int)]
theorem size63 : (Tryz.prog.info? 63).map (·.size) = some 4 := by kernel_rfl
def tokA (p : Nat) (x : Except Int (Nat × List UInt8 × Nat)) : Array Value := match x with
 | .ok (q, t, n) => tkA q p t n
 | .error _ => tkA 0 0 [] 0
def tokE (x : Except Int (Nat × List UInt8 × Nat)) : Int := match x with
 | .ok _ => 0
 | .error e => e
def Tk.cells (x : Tk) : List Value := [.int .i64 (x.kind : Int), .int .i64 (x.pos : Int), str x.text, .int .u32 (x.num : Int)]
def flatT (xs : List Tk) : List Value := xs.flatMap Tk.cells
theorem flatT_cons (x : Tk) (xs : List Tk) : flatT (x :: xs) = x.cells ++ flatT xs := rfl
theorem flatT_append (xs ys : List Tk) : flatT (xs ++ ys) = flatT xs ++ flatT ys := by simp only [flatT, List.flatMap_append]
theorem flatT_len (xs : List Tk) : (flatT xs).length = xs.length * 4 := by
 induction xs with
 | nil => rfl
 | cons x xs ih => rw [flatT_cons, List.length_append, ih, List.length_cons]; simp [Tk.cells]; omega
theorem flatT_get (xs : List Tk) (i j : Nat) (hi : i < xs.length) (hj : j < 4) : (flatT xs)[i * 4 + j]? = (xs[i].cells)[j]? := by
 induction xs generalizing i with
 | nil => simp at hi
 | cons x xs ih =>
  rw [flatT_cons]
  have hl : x.cells.length = 4 := rfl
  cases i with
  | zero => rw [List.getElem?_append_left (by omega)]; simp
  | succ i =>
   rw [List.getElem?_append_right (by omega), hl, show (i + 1) * 4 + j - 4 = i * 4 + j by omega, ih i (by simpa using hi)]
   simp
theorem CV.toks {w : World} {ao : Option Addr} {xs : List Tk} (h : CV w ao (flatT xs)) {k : Nat} (hk : k < xs.length) :
  ∃ b off, ao = some ⟨b, off, none⟩ ∧ ∀ i (hi : i < xs.length), w.cell? ⟨b, off + i * 4, none⟩ = some (.int .i64 (xs[i].kind : Int)) ∧ w.cell? ⟨b, off + i * 4 + 1, none⟩ = some (.int .i64 (xs[i].pos : Int)) ∧
   w.cell? ⟨b, off + i * 4 + 2, none⟩ = some (str xs[i].text) ∧ w.cell? ⟨b, off + i * 4 + 3, none⟩ = some (.int .u32 (xs[i].num : Int)) := by
 have hl := flatT_len xs
 obtain ⟨b, off, hao, hc⟩ := h.addr (k := k * 4) (by omega)
 refine ⟨b, off, hao, fun i hi => ?_⟩
 have key : ∀ j (hj : j < 4), w.cell? ⟨b, off + i * 4 + j, none⟩ = (xs[i].cells)[j]? := fun j hj => by
  rw [← flatT_get xs i j hi hj, Nat.add_assoc, hc (i * 4 + j) (by omega), List.getElem?_eq_getElem (by omega)]
 exact ⟨key 0 (by omega), key 1 (by omega), key 2 (by omega), key 3 (by omega)⟩
theorem info63 : (Tryz.prog.info? 63).map (fun i => (i.zero, i.size, i.bytes)) = some (some (.agg #[.int .i64 0, .int .i64 0, .string .empty, .int .u32 0]), 4, 40) := by kernel_rfl
abbrev TOwns (w : World) (base : Nat) (v : Value) (xs : List Tk) : Prop := w.ownsRow base 63 4 v xs.length (flatT xs)
def TSpoilRel (w : World) (row : Option Nat) (g g' n n' : Nat) (wr : World) : Prop := BlkN wr 63 g n ∧ BlkN wr 63 g' n' ∧ w.grownBy wr row
theorem TSpoilRel.set {w wr : World} {row : Option Nat} {g g' n n' : Nat} (h : TSpoilRel w row g g' n n' wr) {p : Addr} (hp : row = some p.block ∨ w.heap.size ≤ p.block) (u : Value) : TSpoilRel w row g g' n n' (wr.setCell p u) :=
 ⟨h.1.setCell _ _, h.2.1.setCell _ _, grown_setCell h.2.2 _ _ hp⟩
def lexT (x : Except (Nat × Int) (List Tk)) : List Tk := match x with
 | .ok ts => ts
 | .error _ => []
def lexP (x : Except (Nat × Int) (List Tk)) : Nat := match x with
 | .ok _ => 0
 | .error e => e.1
def lexE (x : Except (Nat × Int) (List Tk)) : Int := match x with
 | .ok _ => 0
 | .error e => e.2
def glue (us : List Tk) (x : Except (Nat × Int) (List Tk)) : Except (Nat × Int) (List Tk) := match x with
 | .ok ts => .ok (us ++ ts)
 | .error e => .error e
theorem tok_er {s : List UInt8} {e : Int} (h : tokV s = .error e) : (e != 0) = true := by
 unfold tokV at h
 split at h
 ·cases h
 ·split at h
  ·split at h
   ·cases h
   ·split at h
    ·cases h; rfl
    ·cases h
  ·split at h
   ·cases h
   ·split at h
    ·cases h; rfl
    ·cases h
def kindN (n : Nat) : Nat :=
 if n = 32 ∨ n = 9 ∨ n = 10 ∨ n = 13 then 1 else if 48 ≤ n ∧ n ≤ 57 then 2 else if 97 ≤ n ∧ n ≤ 102 then 3 else if 103 ≤ n ∧ n ≤ 122 then 4 else if n = 58 then 5 else if n = 46 then 6 else 0
set_option maxHeartbeats 1000000 in
theorem kind_any (n : Nat) (w : World) :
  Calls Tryz.prog 23 #[.int .u8 (n : Int)] w fun e w' => e = .returned (.int .i64 (kindN n : Int)) ∧ w = w' := by
 have e1 : ∀ k : Nat, ((n : Int) == (k : Int)) = decide (n = k) := fun k => by
  by_cases h : n = k
  ·subst h; simp
  ·rw [beq_eq_false_iff_ne.2 (by omega), decide_eq_false h]
 have d32 := e1 32
 have d9 := e1 9
 have d10 := e1 10
 have d13 := e1 13
 have d58 := e1 58
 have d46 := e1 46
 clear e1
 unfold kindN
 by_cases hb : n = 32 ∨ n = 9 ∨ n = 10 ∨ n = 13
 ·rw [if_pos hb]
  rcases hb with rfl | rfl | rfl | rfl <;>
  ·go_enter Tryz.func23, Tryz.ntmps23
   go_wp2
   go_ret
   exact ⟨rfl, rfl⟩
 rw [if_neg hb]
 have b32 : ((n : Int) == 32) = false := by rw [beq_eq_false_iff_ne]; omega
 have b9 : ((n : Int) == 9) = false := by rw [beq_eq_false_iff_ne]; omega
 have b10 : ((n : Int) == 10) = false := by rw [beq_eq_false_iff_ne]; omega
 have b13 : ((n : Int) == 13) = false := by rw [beq_eq_false_iff_ne]; omega
 clear d32 d9 d10 d13 d58 d46 hb
 by_cases hd : 48 ≤ n ∧ n ≤ 57
 ·rw [if_pos hd]
  have i1 : (48 : Int) ≤ (n : Int) := by omega
  have i2 : (n : Int) ≤ 57 := by omega
  clear hd
  go_enter Tryz.func23, Tryz.ntmps23
  go_wp2
  go_ret
  exact ⟨rfl, rfl⟩
 rw [if_neg hd]
 by_cases hx : 97 ≤ n ∧ n ≤ 102
 ·rw [if_pos hx]
  have i1 : (48 : Int) ≤ (n : Int) := by omega
  have i2 : ¬ (n : Int) ≤ 57 := by omega
  have i3 : (97 : Int) ≤ (n : Int) := by omega
  have i4 : (n : Int) ≤ 102 := by omega
  clear hd hx
  go_enter Tryz.func23, Tryz.ntmps23
  go_wp2
  go_ret
  exact ⟨rfl, rfl⟩
 rw [if_neg hx]
 by_cases hl : 103 ≤ n ∧ n ≤ 122
 ·rw [if_pos hl]
  have i1 : (48 : Int) ≤ (n : Int) := by omega
  have i2 : ¬ (n : Int) ≤ 57 := by omega
  have i3 : (97 : Int) ≤ (n : Int) := by omega
  have i4 : ¬ (n : Int) ≤ 102 := by omega
  have i5 : (103 : Int) ≤ (n : Int) := by omega
  have i6 : (n : Int) ≤ 122 := by omega
  clear hd hx hl
  go_enter Tryz.func23, Tryz.ntmps23
  go_wp2
  go_ret
  exact ⟨rfl, rfl⟩
 rw [if_neg hl]
 by_cases h58 : n = 58
 ·rw [if_pos h58]
  subst h58
  clear b32 b9 b10 b13 hd hx hl
  go_enter Tryz.func23, Tryz.ntmps23
  go_wp2
  go_ret
  exact ⟨rfl, rfl⟩
 rw [if_neg h58]
 have b58 : ((n : Int) == 58) = false := by rw [beq_eq_false_iff_ne]; omega
 by_cases h46 : n = 46
 ·rw [if_pos h46]
  subst h46
  clear b32 b9 b10 b13 hd hx hl b58
  go_enter Tryz.func23, Tryz.ntmps23
  go_wp2
  go_ret
  exact ⟨rfl, rfl⟩
 rw [if_neg h46]
 have b46 : ((n : Int) == 46) = false := by rw [beq_eq_false_iff_ne]; omega
 have c1 : (decide ((48 : Int) ≤ (n : Int)) && decide ((n : Int) ≤ 57)) = false := by simp; omega
 have c2 : (decide ((97 : Int) ≤ (n : Int)) && decide ((n : Int) ≤ 102)) = false := by simp; omega
 have c3 : (decide ((103 : Int) ≤ (n : Int)) && decide ((n : Int) ≤ 122)) = false := by simp; omega
 have hs : n < 48 ∨ (57 < n ∧ n < 97) ∨ 122 < n := by omega
 clear h58 h46 hl c1 c2 c3
 rcases hs with h | ⟨h, h'⟩ | h
 ·have i1 : ¬ (48 : Int) ≤ (n : Int) := by omega
  have i3 : ¬ (97 : Int) ≤ (n : Int) := by omega
  have i5 : ¬ (103 : Int) ≤ (n : Int) := by omega
  clear hd hx h
  go_enter Tryz.func23, Tryz.ntmps23
  go_wp2
  go_ret
  exact ⟨rfl, rfl⟩
 ·have i1 : (48 : Int) ≤ (n : Int) := by omega
  have i2 : ¬ (n : Int) ≤ 57 := by omega
  have i3 : ¬ (97 : Int) ≤ (n : Int) := by omega
  have i5 : ¬ (103 : Int) ≤ (n : Int) := by omega
  clear hd hx h h'
  go_enter Tryz.func23, Tryz.ntmps23
  go_wp2
  go_ret
  exact ⟨rfl, rfl⟩
 ·have i1 : (48 : Int) ≤ (n : Int) := by omega
  have i2 : ¬ (n : Int) ≤ 57 := by omega
  have i3 : (97 : Int) ≤ (n : Int) := by omega
  have i4 : ¬ (n : Int) ≤ 102 := by omega
  have i5 : (103 : Int) ≤ (n : Int) := by omega
  have i6 : ¬ (n : Int) ≤ 122 := by omega
  clear hd hx h
  go_enter Tryz.func23, Tryz.ntmps23
  go_wp2
  go_ret
  exact ⟨rfl, rfl⟩
theorem kind_blank (c : UInt8) : ((kindN c.toNat : Int) == 1) = blankB c := by
 have h : ∀ k : Fin 256, ((kindN k.1 : Int) == 1) = blankB (UInt8.ofNat k.1) := by decide +kernel
 have := h ⟨c.toNat, c.toNat_lt⟩
 simpa using this
theorem kind_is (c : UInt8) : kindN c.toNat ≤ 6 ∧ sixB c = decide (kindN c.toNat = 2 ∨ kindN c.toNat = 3 ∨ kindN c.toNat = 5) ∧ quadB c = decide (kindN c.toNat = 2 ∨ kindN c.toNat = 6) ∧ wordB c = decide (kindN c.toNat = 2 ∨ kindN c.toNat = 3 ∨ kindN c.toNat = 4) ∧
  decide (c = 58) = decide (kindN c.toNat = 5) ∧ decide (c = 46) = decide (kindN c.toNat = 6) ∧ isDig c = decide (kindN c.toNat = 2) ∧ letB c = decide (kindN c.toNat = 3 ∨ kindN c.toNat = 4) := by
 have h : ∀ k : Fin 256, kindN k.1 ≤ 6 ∧ sixB (UInt8.ofNat k.1) = decide (kindN k.1 = 2 ∨ kindN k.1 = 3 ∨ kindN k.1 = 5) ∧ quadB (UInt8.ofNat k.1) = decide (kindN k.1 = 2 ∨ kindN k.1 = 6) ∧ wordB (UInt8.ofNat k.1) = decide (kindN k.1 = 2 ∨ kindN k.1 = 3 ∨ kindN k.1 = 4) ∧
  decide (UInt8.ofNat k.1 = 58) = decide (kindN k.1 = 5) ∧ decide (UInt8.ofNat k.1 = 46) = decide (kindN k.1 = 6) ∧ isDig (UInt8.ofNat k.1) = decide (kindN k.1 = 2) ∧ letB (UInt8.ofNat k.1) = decide (kindN k.1 = 3 ∨ kindN k.1 = 4) := by decide +kernel
 have := h ⟨c.toNat, c.toNat_lt⟩
 simpa only [UInt8.ofNat_toNat] using this
set_option maxHeartbeats 400000 in
theorem isblank_any (c : UInt8) (w : World) :
  Calls Tryz.prog 22 #[.int .u8 (c.toNat : Int)] w fun e w' => e = .returned (.bool (blankB c)) ∧ w = w' := by
 rw [← kind_blank c]
 have C := kind_any c.toNat w
 generalize kindN c.toNat = q at *
 go_enter Tryz.func22, Tryz.ntmps22
 go_wp2_with fail
 refine C.mono ?_
 rintro e w1 ⟨rfl, rfl⟩
 clear C
 go_wp2
 go_ret
 exact ⟨rfl, rfl⟩
set_option maxHeartbeats 400000 in
theorem isword_any (c : UInt8) (w : World) :
  Calls Tryz.prog 53 #[.int .u8 (c.toNat : Int)] w fun e w' => e = .returned (.bool (wordB c)) ∧ w = w' := by
 have hk := (kind_is c).1
 rw [(kind_is c).2.2.2.1]
 have C := kind_any c.toNat w
 generalize kindN c.toNat = q at *
 have hq : q = 0 ∨ q = 1 ∨ q = 2 ∨ q = 3 ∨ q = 4 ∨ q = 5 ∨ q = 6 := by omega
 clear hk
 rcases hq with rfl | rfl | rfl | rfl | rfl | rfl | rfl <;>
 ·go_enter Tryz.func53, Tryz.ntmps53
  go_wp2_with fail
  refine C.mono ?_
  rintro e w1 ⟨rfl, rfl⟩
  clear C
  go_wp2
  go_ret
  exact ⟨rfl, rfl⟩
set_option maxHeartbeats 1000000 in
theorem issix_any (c : UInt8) (g k : Nat) (hk : k ≤ 140737488355328) (w : World) (A : VAt w g 3 #[.int .i64 (k : Int)]) :
  Calls Tryz.prog 49 #[.int .u8 (c.toNat : Int), .pointer (some ⟨g, 0, none⟩)] w fun e w' => e = .returned (.bool (sixB c)) ∧ VAt w' g 3 #[.int .i64 ((k + (if c = 58 then 1 else 0) : Nat) : Int)] ∧ w.grownBy w' (some g) := by
 have hq := (kind_is c).1
 have h5 := (kind_is c).2.2.2.2.1
 rw [(kind_is c).2.1]
 have C := kind_any c.toNat w
 generalize kindN c.toNat = q at *
 have A0 : w.cell? ⟨g, 0, none⟩ = some (.int .i64 (k : Int)) := A.cell 0
 have hfz := A.free 0
 have hw1 : IntKind.i64.wrap ((k : Int) + 1) = ((k + 1 : Nat) : Int) := by rw [IntKind.wrap_i64]; omega
 have AS : VAt (w.setCell ⟨g, 0, none⟩ (.int .i64 ((k + 1 : Nat) : Int))) g 3 #[.int .i64 ((k + 1 : Nat) : Int)] := A.set 0 _
 have HA : Hid (VAt w g 3 #[.int .i64 (k : Int)]) := A
 have HAS : Hid _ := AS
 clear A AS
 by_cases hc : c = 58
 ·rw [if_pos hc]
  rw [decide_eq_true hc] at h5
  obtain rfl : q = 5 := of_decide_eq_true h5.symm
  clear hq h5 hc
  go_enter Tryz.func49, Tryz.ntmps49
  go_wp2_with fail
  refine C.mono ?_
  rintro e w1 ⟨rfl, rfl⟩
  clear C
  go_wp2
  go_ret
  exact ⟨rfl, HAS.out, grown_set1 _ _ _⟩
 ·rw [if_neg hc]
  rw [decide_eq_false hc] at h5
  have h5' : q ≠ 5 := of_decide_eq_false h5.symm
  have hs : q = 0 ∨ q = 1 ∨ q = 2 ∨ q = 3 ∨ q = 4 ∨ q = 6 := by omega
  clear hq h5 hc h5' HAS hw1
  rcases hs with rfl | rfl | rfl | rfl | rfl | rfl <;>
  ·go_enter Tryz.func49, Tryz.ntmps49
   go_wp2_with fail
   refine C.mono ?_
   rintro e w1 ⟨rfl, rfl⟩
   clear C
   go_wp2
   go_ret
   exact ⟨rfl, HA.out, World.grownBy.refl _ _⟩
set_option maxHeartbeats 1000000 in
theorem isquad_any (c : UInt8) (g : Nat) (k : Bool) (w : World) (A : VAt w g 4 #[.bool k]) :
  Calls Tryz.prog 50 #[.int .u8 (c.toNat : Int), .pointer (some ⟨g, 0, none⟩)] w fun e w' => e = .returned (.bool (quadB c)) ∧ VAt w' g 4 #[.bool (k || decide (c = 46))] ∧ w.grownBy w' (some g) := by
 have hq := (kind_is c).1
 have h5 := (kind_is c).2.2.2.2.2.1
 rw [h5, (kind_is c).2.2.1]
 have C := kind_any c.toNat w
 generalize kindN c.toNat = q at *
 have A0 : w.cell? ⟨g, 0, none⟩ = some (.bool k) := A.cell 0
 have hfz := A.free 0
 have HA : Hid (∀ b, VAt (w.setCell ⟨g, 0, none⟩ (.bool b)) g 4 #[.bool b]) := fun b => A.set 0 (.bool b)
 clear A h5
 have hs : q = 0 ∨ q = 1 ∨ q = 2 ∨ q = 3 ∨ q = 4 ∨ q = 5 ∨ q = 6 := by omega
 clear hq
 cases k <;>
 ·rcases hs with rfl | rfl | rfl | rfl | rfl | rfl | rfl <;>
  ·go_enter Tryz.func50, Tryz.ntmps50
   go_wp2_with fail
   refine C.mono ?_
   rintro e w1 ⟨rfl, rfl⟩
   clear C
   go_wp2
   go_ret
   exact ⟨rfl, HA.out _, grown_set1 _ _ _⟩
set_option maxHeartbeats 1000000 in
theorem runblank_any (s : ByteArray) (hs : s.size ≤ 140737488355328) (w : World) :
  Calls Tryz.prog 21 #[.string s, .func (.func 22) #[] #[]] w fun e w' => e = .returned (str ((sl s).takeWhile blankB)) ∧ w = w' := by
 have HIN : Hid (∀ (c : UInt8) (W : World), Calls Tryz.prog 22 #[.int .u8 (c.toNat : Int)] W fun e w' => e = .returned (.bool (blankB c)) ∧ W = w') := fun c W => isblank_any c W
 obtain ⟨ans, hans⟩ : ∃ ans, (sl s).takeWhile blankB = ans := ⟨_, rfl⟩
 have HA : Hid ((sl s).takeWhile blankB = ans) := hans
 rw [hans]
 clear hans
 go_enter Tryz.func21, Tryz.ntmps21
 go_wp2
 go_loopw [5] (fun i wr => ∃ j : Nat, j ≤ s.size ∧ i = .int .i64 j ∧ Hid ((sl s).take j ++ ((sl s).drop j).takeWhile blankB = ans) ∧ wr = w) (fun i _ => s.size - (intOf i).toNat)
 case atStart => exact ⟨0, Nat.zero_le _, rfl, HA, rfl⟩
 case round =>
  obtain ⟨j, h2, rfl, HJ, rfl⟩ := hrel
  have z1 : (0 : Int) ≤ (j : Int) := by omega
  have z3 : (j : Int) ≤ (s.size : Int) := by omega
  by_cases hlt : j < s.size
  ·have hji : (j : Int) < (s.size : Int) := by omega
   have HD : Hid ((sl s).drop j = s[j] :: (sl s).drop (j + 1)) := sl_drop s j hlt
   have CI := HIN.out s[j] wr
   cases hp : blankB s[j] with
   | true =>
    rw [hp] at CI
    have HN : Hid ((sl s).take (j + 1) ++ ((sl s).drop (j + 1)).takeWhile blankB = ans) := by
     show _ = ans
     rw [← HJ.out, HD.out, List.takeWhile_cons_of_pos hp, List.take_add_one, sl_get s j hlt, Option.toList_some, List.append_assoc]
     rfl
    clear HJ HD
    go_wp2_with fail
    refine CI.mono ?_
    rintro e w1 ⟨rfl, rfl⟩
    clear CI
    go_wp2
    go_roundw
    case rel => exact ⟨j + 1, by omega, by go_num, HN, by first | rfl | trivial⟩
    case measure => simp [intOf]; omega
   | false =>
    rw [hp] at CI
    have hE : sl (s.extract 0 j) = ans := by
     rw [sl_extract, ← HJ.out, HD.out, List.takeWhile_cons_of_neg (by rw [hp]; simp), List.append_nil]
     simp
    have HE : Hid (Value.string (s.extract 0 j) = str ans) := by show Value.string (s.extract 0 j) = str ans; rw [str_sl, hE]
    clear HJ HD hE
    go_wp2_with fail
    refine CI.mono ?_
    rintro e w1 ⟨rfl, rfl⟩
    clear CI
    go_wp2
    go_ret
    exact ⟨by rw [HE.out]; rfl, rfl⟩
  ·obtain rfl : j = s.size := by omega
   have hji : ¬ (s.size : Int) < (s.size : Int) := by omega
   have hE : sl s = ans := by
    rw [← HJ.out, List.drop_eq_nil_of_le (i := s.size) (by rw [sl_len]; exact Nat.le_refl _), ← sl_len]
    simp
   have HE : Hid (Value.string s = str ans) := by show Value.string s = str ans; rw [str_sl, hE]
   clear HJ hE
   go_wp2
   go_ret
   exact ⟨by show Ending.returned (Value.string s) = _; rw [HE.out], rfl⟩
set_option maxHeartbeats 1000000 in
theorem runword_any (s : ByteArray) (hs : s.size ≤ 140737488355328) (w : World) :
  Calls Tryz.prog 21 #[.string s, .func (.func 53) #[] #[]] w fun e w' => e = .returned (str ((sl s).takeWhile wordB)) ∧ w = w' := by
 have HIN : Hid (∀ (c : UInt8) (W : World), Calls Tryz.prog 53 #[.int .u8 (c.toNat : Int)] W fun e w' => e = .returned (.bool (wordB c)) ∧ W = w') := fun c W => isword_any c W
 obtain ⟨ans, hans⟩ : ∃ ans, (sl s).takeWhile wordB = ans := ⟨_, rfl⟩
 have HA : Hid ((sl s).takeWhile wordB = ans) := hans
 rw [hans]
 clear hans
 go_enter Tryz.func21, Tryz.ntmps21
 go_wp2
 go_loopw [5] (fun i wr => ∃ j : Nat, j ≤ s.size ∧ i = .int .i64 j ∧ Hid ((sl s).take j ++ ((sl s).drop j).takeWhile wordB = ans) ∧ wr = w) (fun i _ => s.size - (intOf i).toNat)
 case atStart => exact ⟨0, Nat.zero_le _, rfl, HA, rfl⟩
 case round =>
  obtain ⟨j, h2, rfl, HJ, rfl⟩ := hrel
  have z1 : (0 : Int) ≤ (j : Int) := by omega
  have z3 : (j : Int) ≤ (s.size : Int) := by omega
  by_cases hlt : j < s.size
  ·have hji : (j : Int) < (s.size : Int) := by omega
   have HD : Hid ((sl s).drop j = s[j] :: (sl s).drop (j + 1)) := sl_drop s j hlt
   have CI := HIN.out s[j] wr
   cases hp : wordB s[j] with
   | true =>
    rw [hp] at CI
    have HN : Hid ((sl s).take (j + 1) ++ ((sl s).drop (j + 1)).takeWhile wordB = ans) := by
     show _ = ans
     rw [← HJ.out, HD.out, List.takeWhile_cons_of_pos hp, List.take_add_one, sl_get s j hlt, Option.toList_some, List.append_assoc]
     rfl
    clear HJ HD
    go_wp2_with fail
    refine CI.mono ?_
    rintro e w1 ⟨rfl, rfl⟩
    clear CI
    go_wp2
    go_roundw
    case rel => exact ⟨j + 1, by omega, by go_num, HN, by first | rfl | trivial⟩
    case measure => simp [intOf]; omega
   | false =>
    rw [hp] at CI
    have hE : sl (s.extract 0 j) = ans := by
     rw [sl_extract, ← HJ.out, HD.out, List.takeWhile_cons_of_neg (by rw [hp]; simp), List.append_nil]
     simp
    have HE : Hid (Value.string (s.extract 0 j) = str ans) := by show Value.string (s.extract 0 j) = str ans; rw [str_sl, hE]
    clear HJ HD hE
    go_wp2_with fail
    refine CI.mono ?_
    rintro e w1 ⟨rfl, rfl⟩
    clear CI
    go_wp2
    go_ret
    exact ⟨by rw [HE.out]; rfl, rfl⟩
  ·obtain rfl : j = s.size := by omega
   have hji : ¬ (s.size : Int) < (s.size : Int) := by omega
   have hE : sl s = ans := by
    rw [← HJ.out, List.drop_eq_nil_of_le (i := s.size) (by rw [sl_len]; exact Nat.le_refl _), ← sl_len]
    simp
   have HE : Hid (Value.string s = str ans) := by show Value.string s = str ans; rw [str_sl, hE]
   clear HJ hE
   go_wp2
   go_ret
   exact ⟨by show Ending.returned (Value.string s) = _; rw [HE.out], rfl⟩
set_option maxHeartbeats 1000000 in
theorem runsix_any (s : ByteArray) (g : Nat) (hs : s.size ≤ 140737488355328) (w : World) (A : VAt w g 3 #[.int .i64 0]) :
  Calls Tryz.prog 21 #[.string s, .func (.func 49) #[] #[.pointer (some ⟨g, 0, none⟩)]] w fun e w' => e = .returned (str ((sl s).takeWhile sixB)) ∧ VAt w' g 3 #[.int .i64 (((sl s).takeWhile sixB).count 58 : Int)] ∧ w.grownBy w' (some g) := by
 have HIN : Hid (∀ (c : UInt8) (k : Nat) (W : World), k ≤ 140737488355328 → VAt W g 3 #[.int .i64 (k : Int)] → Calls Tryz.prog 49 #[.int .u8 (c.toNat : Int), .pointer (some ⟨g, 0, none⟩)] W fun e w' => e = .returned (.bool (sixB c)) ∧ VAt w' g 3 #[.int .i64 ((k + (if c = 58 then 1 else 0) : Nat) : Int)] ∧ W.grownBy w' (some g)) := fun c k W hk A => issix_any c g k hk W A
 obtain ⟨N, hN⟩ : ∃ N, ((sl s).takeWhile sixB).count 58 = N := ⟨_, rfl⟩
 have HN0 : Hid (0 + (((sl s).drop 0).takeWhile sixB).count 58 = N) := by show 0 + _ = N; rw [Nat.zero_add, List.drop_zero]; exact hN
 rw [hN]
 clear hN
 obtain ⟨ans, hans⟩ : ∃ ans, (sl s).takeWhile sixB = ans := ⟨_, rfl⟩
 have HA : Hid ((sl s).takeWhile sixB = ans) := hans
 rw [hans]
 clear hans
 go_enter Tryz.func21, Tryz.ntmps21
 go_wp2
 go_loopw [5] (fun i wr => ∃ j k : Nat, j ≤ s.size ∧ k ≤ j ∧ i = .int .i64 j ∧ Hid ((sl s).take j ++ ((sl s).drop j).takeWhile sixB = ans) ∧ Hid (k + (((sl s).drop j).takeWhile sixB).count 58 = N) ∧ Hid (VAt wr g 3 #[.int .i64 (k : Int)] ∧ w.grownBy wr (some g))) (fun i _ => s.size - (intOf i).toNat)
 case atStart => exact ⟨0, 0, Nat.zero_le _, Nat.le_refl _, rfl, HA, HN0, A, World.grownBy.refl _ _⟩
 case round =>
  clear A HN0 HA
  obtain ⟨j, k, h2, hkj, rfl, HJ, HC, HW⟩ := hrel
  have z1 : (0 : Int) ≤ (j : Int) := by omega
  have z3 : (j : Int) ≤ (s.size : Int) := by omega
  by_cases hlt : j < s.size
  ·have hji : (j : Int) < (s.size : Int) := by omega
   have HD : Hid ((sl s).drop j = s[j] :: (sl s).drop (j + 1)) := sl_drop s j hlt
   have CI := HIN.out s[j] k wr (by omega) HW.out.1
   cases hp : sixB s[j] with
   | true =>
    rw [hp] at CI
    have HN : Hid ((sl s).take (j + 1) ++ ((sl s).drop (j + 1)).takeWhile sixB = ans) := by
     show _ = ans
     rw [← HJ.out, HD.out, List.takeWhile_cons_of_pos hp, List.take_add_one, sl_get s j hlt, Option.toList_some, List.append_assoc]
     rfl
    have HM : Hid (k + (if s[j] = 58 then 1 else 0) + (((sl s).drop (j + 1)).takeWhile sixB).count 58 = N) := by
     show _ = N
     rw [← HC.out, HD.out, List.takeWhile_cons_of_pos hp, List.count_cons]
     by_cases h58 : s[j] = 58
     ·rw [if_pos h58, if_pos (by simp [h58])]; omega
     ·rw [if_neg h58, if_neg (by simpa using h58)]; omega
    have HL : Hid (k + (if s[j] = 58 then 1 else 0) ≤ j + 1) := by show _ ≤ j + 1; split <;> omega
    generalize (k + (if s[j] = 58 then 1 else 0)) = k1 at *
    clear HJ HD
    go_wp2_with fail
    refine CI.mono ?_
    rintro e w1 ⟨rfl, A1, K1⟩
    have HW1 : Hid (VAt w1 g _ _ ∧ w.grownBy w1 (some g)) := ⟨A1, grown_trans HW.out.2 K1⟩
    clear CI A1 K1 HW HC
    go_wp2
    go_roundw
    case rel => exact ⟨j + 1, k1, by omega, HL.out, by go_num, HN, HM, HW1⟩
    case measure => simp [intOf]; omega
   | false =>
    rw [hp] at CI
    have hE : sl (s.extract 0 j) = ans := by
     rw [sl_extract, ← HJ.out, HD.out, List.takeWhile_cons_of_neg (by rw [hp]; simp), List.append_nil]
     simp
    have HE : Hid (Value.string (s.extract 0 j) = str ans) := by show Value.string (s.extract 0 j) = str ans; rw [str_sl, hE]
    have hk : k + (if s[j] = 58 then 1 else 0) = N := by
     have h58 : ¬ s[j] = 58 := fun e => by rw [e] at hp; exact absurd hp (by decide)
     rw [if_neg h58, ← HC.out, HD.out, List.takeWhile_cons_of_neg (by rw [hp]; simp)]
     rfl
    rw [hk] at CI
    clear hk
    clear HJ HD hE
    go_wp2_with fail
    refine CI.mono ?_
    rintro e w1 ⟨rfl, A1, K1⟩
    have HW1 : Hid (VAt w1 g _ _ ∧ w.grownBy w1 (some g)) := ⟨A1, grown_trans HW.out.2 K1⟩
    clear CI A1 K1 HW HC
    go_wp2
    go_ret
    exact ⟨by rw [HE.out]; rfl, HW1.out.1, HW1.out.2⟩
  ·obtain rfl : j = s.size := by omega
   have hji : ¬ (s.size : Int) < (s.size : Int) := by omega
   have hE : sl s = ans := by
    rw [← HJ.out, List.drop_eq_nil_of_le (i := s.size) (by rw [sl_len]; exact Nat.le_refl _), ← sl_len]
    simp
   have HE : Hid (Value.string s = str ans) := by show Value.string s = str ans; rw [str_sl, hE]
   obtain rfl : k = N := by
    have := HC.out
    rw [List.drop_eq_nil_of_le (i := s.size) (by rw [sl_len]; exact Nat.le_refl _)] at this
    simpa using this
   clear HC
   clear HJ hE
   go_wp2
   go_ret
   exact ⟨by show Ending.returned (Value.string s) = _; rw [HE.out], HW.out.1, HW.out.2⟩
set_option maxHeartbeats 1000000 in
theorem runquad_any (s : ByteArray) (g : Nat) (hs : s.size ≤ 140737488355328) (w : World) (A : VAt w g 4 #[.bool false]) :
  Calls Tryz.prog 21 #[.string s, .func (.func 50) #[] #[.pointer (some ⟨g, 0, none⟩)]] w fun e w' => e = .returned (str ((sl s).takeWhile quadB)) ∧ VAt w' g 4 #[.bool (((sl s).takeWhile quadB).contains 46)] ∧ w.grownBy w' (some g) := by
 have HIN : Hid (∀ (c : UInt8) (k : Bool) (W : World), VAt W g 4 #[.bool k] → Calls Tryz.prog 50 #[.int .u8 (c.toNat : Int), .pointer (some ⟨g, 0, none⟩)] W fun e w' => e = .returned (.bool (quadB c)) ∧ VAt w' g 4 #[.bool (k || decide (c = 46))] ∧ W.grownBy w' (some g)) := fun c k W A => isquad_any c g k W A
 obtain ⟨N, hN⟩ : ∃ N, ((sl s).takeWhile quadB).contains 46 = N := ⟨_, rfl⟩
 have HN0 : Hid ((false || (((sl s).drop 0).takeWhile quadB).contains 46) = N) := by show (false || _) = N; rw [Bool.false_or, List.drop_zero]; exact hN
 rw [hN]
 clear hN
 obtain ⟨ans, hans⟩ : ∃ ans, (sl s).takeWhile quadB = ans := ⟨_, rfl⟩
 have HA : Hid ((sl s).takeWhile quadB = ans) := hans
 rw [hans]
 clear hans
 go_enter Tryz.func21, Tryz.ntmps21
 go_wp2
 go_loopw [5] (fun i wr => ∃ (j : Nat) (k : Bool), j ≤ s.size ∧ i = .int .i64 j ∧ Hid ((sl s).take j ++ ((sl s).drop j).takeWhile quadB = ans) ∧ Hid ((k || (((sl s).drop j).takeWhile quadB).contains 46) = N) ∧ Hid (VAt wr g 4 #[.bool k] ∧ w.grownBy wr (some g))) (fun i _ => s.size - (intOf i).toNat)
 case atStart => exact ⟨0, false, Nat.zero_le _, rfl, HA, HN0, A, World.grownBy.refl _ _⟩
 case round =>
  clear A HN0 HA
  obtain ⟨j, k, h2, rfl, HJ, HC, HW⟩ := hrel
  have z1 : (0 : Int) ≤ (j : Int) := by omega
  have z3 : (j : Int) ≤ (s.size : Int) := by omega
  by_cases hlt : j < s.size
  ·have hji : (j : Int) < (s.size : Int) := by omega
   have HD : Hid ((sl s).drop j = s[j] :: (sl s).drop (j + 1)) := sl_drop s j hlt
   have CI := HIN.out s[j] k wr HW.out.1
   cases hp : quadB s[j] with
   | true =>
    rw [hp] at CI
    have HN : Hid ((sl s).take (j + 1) ++ ((sl s).drop (j + 1)).takeWhile quadB = ans) := by
     show _ = ans
     rw [← HJ.out, HD.out, List.takeWhile_cons_of_pos hp, List.take_add_one, sl_get s j hlt, Option.toList_some, List.append_assoc]
     rfl
    have HM : Hid (((k || decide (s[j] = 46)) || (((sl s).drop (j + 1)).takeWhile quadB).contains 46) = N) := by
     show _ = N
     rw [← HC.out, HD.out, List.takeWhile_cons_of_pos hp, List.contains_cons, Bool.or_assoc]
     congr 2
     by_cases h46 : s[j] = 46
     ·rw [h46]; rfl
     ·rw [decide_eq_false h46, beq_eq_false_iff_ne.2 (fun e => h46 e.symm)]
    generalize (k || decide (s[j] = 46)) = k1 at *
    clear HJ HD
    go_wp2_with fail
    refine CI.mono ?_
    rintro e w1 ⟨rfl, A1, K1⟩
    have HW1 : Hid (VAt w1 g _ _ ∧ w.grownBy w1 (some g)) := ⟨A1, grown_trans HW.out.2 K1⟩
    clear CI A1 K1 HW HC
    go_wp2
    go_roundw
    case rel => exact ⟨j + 1, k1, by omega, by go_num, HN, HM, HW1⟩
    case measure => simp [intOf]; omega
   | false =>
    rw [hp] at CI
    have hE : sl (s.extract 0 j) = ans := by
     rw [sl_extract, ← HJ.out, HD.out, List.takeWhile_cons_of_neg (by rw [hp]; simp), List.append_nil]
     simp
    have HE : Hid (Value.string (s.extract 0 j) = str ans) := by show Value.string (s.extract 0 j) = str ans; rw [str_sl, hE]
    have hk : (k || decide (s[j] = 46)) = N := by
     have h46 : ¬ s[j] = 46 := fun e => by rw [e] at hp; exact absurd hp (by decide)
     rw [decide_eq_false h46, ← HC.out, HD.out, List.takeWhile_cons_of_neg (by rw [hp]; simp)]
     simp
    rw [hk] at CI
    clear hk
    clear HJ HD hE
    go_wp2_with fail
    refine CI.mono ?_
    rintro e w1 ⟨rfl, A1, K1⟩
    have HW1 : Hid (VAt w1 g _ _ ∧ w.grownBy w1 (some g)) := ⟨A1, grown_trans HW.out.2 K1⟩
    clear CI A1 K1 HW HC
    go_wp2
    go_ret
    exact ⟨by rw [HE.out]; rfl, HW1.out.1, HW1.out.2⟩
  ·obtain rfl : j = s.size := by omega
   have hji : ¬ (s.size : Int) < (s.size : Int) := by omega
   have hE : sl s = ans := by
    rw [← HJ.out, List.drop_eq_nil_of_le (i := s.size) (by rw [sl_len]; exact Nat.le_refl _), ← sl_len]
    simp
   have HE : Hid (Value.string s = str ans) := by show Value.string s = str ans; rw [str_sl, hE]
   obtain rfl : k = N := by
    have := HC.out
    rw [List.drop_eq_nil_of_le (i := s.size) (by rw [sl_len]; exact Nat.le_refl _)] at this
    simpa using this
   clear HC
   clear HJ hE
   go_wp2
   go_ret
   exact ⟨by show Ending.returned (Value.string s) = _; rw [HE.out], HW.out.1, HW.out.2⟩
def sixV (s : List UInt8) : List UInt8 := if 2 ≤ (s.takeWhile sixB).count 58 then s.takeWhile sixB else []
def quadV (s : List UInt8) : List UInt8 := if (s.takeWhile quadB).contains 46 = true then s.takeWhile quadB else []
set_option maxHeartbeats 1000000 in
theorem six_any (s : ByteArray) (hs : s.size ≤ 140737488355328) (w : World) :
  Calls Tryz.prog 36 #[.string s] w fun e w' => e = .returned (str (sixV (sl s))) ∧ w.grownBy w' none := by
 have hmf : ∀ (fn : Fn) (first cap : Array Value) (w : World), (Instr.makeFunc fn first cap).run Tryz.prog w = .ok (.func fn first cap) w := fun _ _ _ _ => rfl
 have A1 : VAt (w.alloc (.cells #[.int .i64 0] 3)) w.heap.size 3 #[.int .i64 0] := VAt.alloc w 3 #[.int .i64 0]
 have G1 : w.grownBy (w.alloc (.cells #[.int .i64 0] 3)) none := World.grownBy_alloc w _ none
 have C := runsix_any s w.heap.size hs _ A1
 have HG : Hid (w.grownBy _ none) := G1
 clear A1 G1
 have hsix : sixV (sl s) = if 2 ≤ ((sl s).takeWhile sixB).count 58 then (sl s).takeWhile sixB else [] := rfl
 rw [hsix]
 clear hsix
 generalize ((sl s).takeWhile sixB).count 58 = N at *
 generalize (sl s).takeWhile sixB = ans at *
 by_cases hN : 2 ≤ N
 ·rw [if_pos hN]
  have hN' : ¬ (N : Int) < 2 := by omega
  clear hN
  go_enter Tryz.func36, Tryz.ntmps36
  go_wp2_with fail
  refine C.mono ?_
  rintro e w2 ⟨rfl, A2, K2⟩
  have c2 : w2.cell? ⟨w.heap.size, 0, none⟩ = some (.int .i64 (N : Int)) := A2.cell 0
  have HG2 : Hid (w.grownBy w2 none) := grown_trans_new HG.out K2 (fun x hx => by injection hx with hx; omega)
  clear C A2 K2 HG
  go_wp2
  go_ret
  exact ⟨rfl, HG2.out⟩
 ·rw [if_neg hN]
  have hN' : (N : Int) < 2 := by omega
  clear hN
  go_enter Tryz.func36, Tryz.ntmps36
  go_wp2_with fail
  refine C.mono ?_
  rintro e w2 ⟨rfl, A2, K2⟩
  have c2 : w2.cell? ⟨w.heap.size, 0, none⟩ = some (.int .i64 (N : Int)) := A2.cell 0
  have HG2 : Hid (w.grownBy w2 none) := grown_trans_new HG.out K2 (fun x hx => by injection hx with hx; omega)
  clear C A2 K2 HG
  go_wp2
  go_ret
  exact ⟨rfl, HG2.out⟩
set_option maxHeartbeats 1000000 in
theorem quad_any (s : ByteArray) (hs : s.size ≤ 140737488355328) (w : World) :
  Calls Tryz.prog 37 #[.string s] w fun e w' => e = .returned (str (quadV (sl s))) ∧ w.grownBy w' none := by
 have hmf : ∀ (fn : Fn) (first cap : Array Value) (w : World), (Instr.makeFunc fn first cap).run Tryz.prog w = .ok (.func fn first cap) w := fun _ _ _ _ => rfl
 have A1 : VAt (w.alloc (.cells #[.bool false] 4)) w.heap.size 4 #[.bool false] := VAt.alloc w 4 #[.bool false]
 have G1 : w.grownBy (w.alloc (.cells #[.bool false] 4)) none := World.grownBy_alloc w _ none
 have C := runquad_any s w.heap.size hs _ A1
 have HG : Hid (w.grownBy _ none) := G1
 clear A1 G1
 have hquad : quadV (sl s) = if ((sl s).takeWhile quadB).contains 46 = true then (sl s).takeWhile quadB else [] := rfl
 rw [hquad]
 clear hquad
 generalize ((sl s).takeWhile quadB).contains 46 = N at *
 generalize (sl s).takeWhile quadB = ans at *
 cases N with
 | true =>
  rw [if_pos rfl]
  go_enter Tryz.func37, Tryz.ntmps37
  go_wp2_with fail
  refine C.mono ?_
  rintro e w2 ⟨rfl, A2, K2⟩
  have c2 : w2.cell? ⟨w.heap.size, 0, none⟩ = some (.bool true) := A2.cell 0
  have HG2 : Hid (w.grownBy w2 none) := grown_trans_new HG.out K2 (fun x hx => by injection hx with hx; omega)
  clear C A2 K2 HG
  go_wp2
  go_ret
  exact ⟨rfl, HG2.out⟩
 | false =>
  rw [if_neg (by simp)]
  go_enter Tryz.func37, Tryz.ntmps37
  go_wp2_with fail
  refine C.mono ?_
  rintro e w2 ⟨rfl, A2, K2⟩
  have c2 : w2.cell? ⟨w.heap.size, 0, none⟩ = some (.bool false) := A2.cell 0
  have HG2 : Hid (w.grownBy w2 none) := grown_trans_new HG.out K2 (fun x hx => by injection hx with hx; omega)
  clear C A2 K2 HG
  go_wp2
  go_ret
  exact ⟨rfl, HG2.out⟩
set_option maxHeartbeats 1000000 in
theorem name_any (s : ByteArray) (hs : s.size ≤ 140737488355328) (w : World) :
  Calls Tryz.prog 39 #[.string s] w fun e w' => e = .returned (str ((sl s).takeWhile wordB)) ∧ w = w' := by
 have C := runword_any s hs w
 go_enter Tryz.func39, Tryz.ntmps39
 go_wp2_with fail
 refine C.mono ?_
 rintro e w2 ⟨rfl, rfl⟩
 clear C
 go_wp2
 go_ret
 exact ⟨rfl, rfl⟩

end Go.Proofs.YtghbbephhoniaaaGreatDoor
