/-
  Chapter 12 in words: constants, put together. No Go text here. What is read of an argument that is a list of bytes; how much the second form counts.
-/
import Derived.Test.YtdajpnlpcdnckaaLotP29
import Derived.Test.YtdajpnlpcdnckaaLotP2
import Derived.Test.YtdajpnlpcdnckaaRows
import Derived.ProofKit
import Derived.OpenShut
import Derived.ShutString
import Derived.ChangeOld
import Derived.SizedLaws
import Derived.JoinedCond
namespace Go.Proofs.Ytdajpnlpcdnckaa
open Go.RowKit
set_option maxRecDepth 100000

def nmN (a : Nat) : Ng := ⟨1, 0, a, 0, 0, 0, 0, zeros 16, 0⟩
def akN (k : Int) : Ng := ⟨4, k, 0, 0, 0, 0, 0, zeros 16, 0⟩
def lnN : Ng := ⟨2, 0, 0, 0, 0, 0, 0, zeros 16, 0⟩
def rnN : Ng := ⟨6, 2, 0, 0, 0, 0, 0, zeros 16, 0⟩
def cp (v : Nat) : Pt := ⟨false, true, v⟩
theorem step_nm (a : Nat) (st : List Pt) : stepG (nmN a) st = .ok (st ++ [cp a]) := by
  have hf : formG (nmN a) = true := by simp [formG, sameG, useG, mayG, nmN]
  have h0 : faultG (nmN a) [] = 0 := by unfold faultG; rw [hf]; rfl
  rw [stepG_good (a := 0) rfl (by omega) (by simpa using h0)]
  simp [joinG, valG, nmN, cp, truthG]
theorem step_ln (st : List Pt) : stepG lnN st = .ok (st ++ [⟨false, false, 0⟩]) := by
  have h0 : faultG lnN [] = 0 := by kernel_rfl
  rw [stepG_good (a := 0) rfl (by omega) (by simpa using h0)]
  simp [joinG, valG, lnN, truthG]
theorem form_ak {k : Int} (hk : 1 ≤ k ∧ k ≤ 10) : formG (akN k) = true := by simp [formG, sameG, useG, mayG, akN, inG, hk.1, hk.2]
theorem step_ak {k : Int} (hk : 1 ≤ k ∧ k ≤ 10) (a b : Nat) (st : List Pt) (hz : ¬ (divG k = true ∧ b = 0)) : stepG (akN k) (st ++ [cp a, cp b]) = .ok (st ++ [cp (arithG k a b)]) := by
  have hzE : zeroE (akN k) [cp a, cp b] = false := by
    unfold zeroE
    by_cases hd : divG k = true
    · have hb : b ≠ 0 := fun h => hz ⟨hd, h⟩
      simp [akN, cp, hb]
    · have hd' : divG k = false := by simpa using hd
      simp [akN, hd']
  have h0 : faultG (akN k) [cp a, cp b] = 0 := by
    unfold faultG
    rw [form_ak hk, hzE]
    rfl
  have hd : (st ++ [cp a, cp b]).drop ((st ++ [cp a, cp b]).length - 2) = [cp a, cp b] := by simp
  have ht : (st ++ [cp a, cp b]).take ((st ++ [cp a, cp b]).length - 2) = st := by simp
  rw [stepG_good (a := 2) rfl (by simp) (by rw [hd]; exact h0), hd, ht]
  simp [joinG, valG, akN, cp, truthG]
theorem step_akz {k : Int} (hk : 1 ≤ k ∧ k ≤ 10) (a : Nat) (st : List Pt) (hd : divG k = true) : stepG (akN k) (st ++ [cp a, cp 0]) = .error 123 := by
  have hzE : zeroE (akN k) [cp a, cp 0] = true := by simp [zeroE, akN, cp, hd]
  have h0 : faultG (akN k) [cp a, cp 0] = 123 := by
    unfold faultG
    rw [form_ak hk, hzE]
    rfl
  have hd2 : (st ++ [cp a, cp 0]).drop ((st ++ [cp a, cp 0]).length - 2) = [cp a, cp 0] := by simp
  rw [stepG_bad (a := 2) rfl (by simp) (by rw [hd2, h0]; decide), hd2, h0]
theorem step_mi (v : Nat) : stepG miN [cp v] = .ok [cp (minusG v)] := by
  have h0 : faultG miN [cp v] = 0 := by
    unfold faultG
    rw [show formG miN = true by kernel_rfl]
    rfl
  rw [stepG_good (a := 1) rfl (by simp) (by simpa using h0)]
  simp [joinG, valG, miN, cp, truthG]
theorem step_rn {p q : Pt} (hp : p.truth = false) (hq : q.truth = false) : ∃ r, stepG rnN [p, q] = .ok [r] ∧ r.truth = true := by
  have hkE : kindE rnN.kind [p, q] = 0 := kindE_none (fun z hz => by
    rcases List.mem_cons.1 hz with rfl | hz
    · rw [hp]; rfl
    · rw [List.mem_singleton.1 hz, hq]; rfl)
  have h0 : faultG rnN [p, q] = 0 := by
    unfold faultG
    rw [show formG rnN = true by kernel_rfl, hkE]
    rfl
  exact ⟨joinG rnN [p, q], by rw [stepG_good (a := 2) rfl (by simp) (by simpa using h0)]; rfl, by rw [joinG_truth]; rfl⟩
theorem num_const {k : Int} (hk : 1 ≤ k ∧ k ≤ 10) (a b : Nat) (hz : ¬ (divG k = true ∧ b = 0)) : constG [nmN a, nmN b, akN k] = some (arithG k a b) := by
  have h3 := step_ak hk a b [] hz
  simp only [List.nil_append] at h3
  simp [constG, walkG, step_nm, h3]
  simp [cp]
theorem num_constz {k : Int} (hk : 1 ≤ k ∧ k ≤ 10) (a : Nat) (hd : divG k = true) : constG [nmN a, nmN 0, akN k] = none := by
  have h3 := step_akz hk a [] hd
  simp only [List.nil_append] at h3
  simp [constG, walkG, step_nm, h3]
theorem num_minus {k : Int} (hk : 1 ≤ k ∧ k ≤ 10) (a b : Nat) (hz : ¬ (divG k = true ∧ b = 0)) : constG [nmN a, nmN b, akN k, miN] = some (minusG (arithG k a b)) := by
  have h3 := step_ak hk a b [] hz
  simp only [List.nil_append] at h3
  have h4 := step_mi (arithG k a b)
  simp [constG, walkG, step_nm, h3, h4]
  simp [cp]
theorem len_const : constG [lnN] = none := by kernel_rfl
theorem num_check {k : Int} (hk : 1 ≤ k ∧ k ≤ 10) (a b : Nat) (hz : ¬ (divG k = true ∧ b = 0)) : (checkG [lnN, nmN a, nmN b, akN k, rnN]).2 = 0 := by
  have h3 := step_ak hk a b [⟨false, false, 0⟩] hz
  obtain ⟨r, hr, ht⟩ := step_rn (p := ⟨false, false, 0⟩) (q := cp (arithG k a b)) rfl rfl
  have hw : walkG [] 0 [lnN, nmN a, nmN b, akN k, rnN] = .ok [r] := by
    simp only [walkG, step_ln, step_nm, List.nil_append, List.cons_append] at h3 ⊢
    rw [h3]
    simp only
    rw [hr]
  refine filt_iff.2 ⟨r, hw, ht, ?_⟩
  have : weightG [lnN, nmN a, nmN b, akN k, rnN] = 18 := by simp [weightG, weighG, lnN, nmN, akN, rnN]
  omega
theorem num_checkz {k : Int} (hk : 1 ≤ k ∧ k ≤ 10) (a : Nat) (hd : divG k = true) : checkG [lnN, nmN a, nmN 0, akN k, rnN] = (3, 123) := by
  have h3 := step_akz hk a [⟨false, false, 0⟩] hd
  apply checkG_er
  simp only [walkG, step_ln, step_nm, List.nil_append, List.cons_append] at h3 ⊢
  rw [h3]

theorem na_add (a b : Nat) : ((a : Int) + (b : Int)) % 4294967296 = (arithG 1 a b : Int) := by simp [arithG]
theorem na_sub {a b : Nat} (hb : b ≤ 4294967295) : ((a : Int) - (b : Int)) % 4294967296 = (arithG 2 a b : Int) := by simp [arithG]; omega
theorem na_mul (a b : Nat) : ((a : Int) * (b : Int)) % 4294967296 = (arithG 3 a b : Int) := by simp [arithG]
theorem na_and {a b : Nat} (ha : a ≤ 4294967295) (hb : b ≤ 4294967295) : bits .and .u32 (a : Int) (b : Int) = (arithG 6 a b : Int) := by rw [u32_and_nat a b (by omega) (by omega)]; simp [arithG]
theorem na_or {a b : Nat} (ha : a ≤ 4294967295) (hb : b ≤ 4294967295) : bits .or .u32 (a : Int) (b : Int) = (arithG 7 a b : Int) := by rw [u32_or_nat a b (by omega) (by omega)]; simp [arithG]
theorem na_xor {a b : Nat} (ha : a ≤ 4294967295) (hb : b ≤ 4294967295) : bits .xor .u32 (a : Int) (b : Int) = (arithG 8 a b : Int) := by rw [u32_xor_nat a b (by omega) (by omega)]; simp [arithG]
theorem na_far {a b : Nat} (h : ¬ b < 32) : arithG 9 a b = 0 ∧ arithG 10 a b = 0 := by
  have h' : 31 < b := by omega
  exact ⟨by simp [arithG, shiftV, h'], by simp [arithG, shiftV, h']⟩
theorem na_fit {q : Nat} (hq : q ≤ 4294967295) : (q : Int) % 4294967296 = (q : Int) := by omega
theorem ar4 (a b : Nat) : arithG 4 a b = a / b := by
  unfold arithG
  rw [if_neg (by decide), if_neg (by decide), if_neg (by decide), if_pos rfl]
theorem ar5 (a b : Nat) : arithG 5 a b = a % b := by
  unfold arithG
  rw [if_neg (by decide), if_neg (by decide), if_neg (by decide), if_neg (by decide), if_pos rfl]
theorem f_list (f : Int → Nat → Nat → Nat) {K : Nat} (hK : 1 ≤ K ∧ K ≤ 10) (a b : Nat) : f (K : Int) a b = ([0, f 1 a b, f 2 a b, f 3 a b, f 4 a b, f 5 a b, f 6 a b, f 7 a b, f 8 a b, f 9 a b, f 10 a b] : List Nat).getD K 0 := by
  have : K = 1 ∨ K = 2 ∨ K = 3 ∨ K = 4 ∨ K = 5 ∨ K = 6 ∨ K = 7 ∨ K = 8 ∨ K = 9 ∨ K = 10 := by omega
  rcases this with rfl | rfl | rfl | rfl | rfl | rfl | rfl | rfl | rfl | rfl <;> rfl
theorem na_list {K : Nat} (hK : 1 ≤ K ∧ K ≤ 10) (a b : Nat) : arithG (K : Int) a b = ([0, arithG 1 a b, arithG 2 a b, arithG 3 a b, a / b, a % b, arithG 6 a b, arithG 7 a b, arithG 8 a b, arithG 9 a b, arithG 10 a b] : List Nat).getD K 0 := by
  have := f_list arithG hK a b
  rw [ar4, ar5] at this
  exact this
theorem na_neg {v : Nat} (h : v ≤ 4294967295) : (-(v : Int)) % 4294967296 = (minusG v : Int) := by unfold minusG; omega
theorem ten_cases {K : Nat} (h : 1 ≤ K ∧ K ≤ 10) : K = 1 ∨ K = 2 ∨ K = 3 ∨ K = 4 ∨ K = 5 ∨ K = 6 ∨ K = 7 ∨ K = 8 ∨ K = 9 ∨ K = 10 := by omega
theorem eight_cases {K : Nat} (h : 1 ≤ K ∧ K ≤ 10) (h4 : ¬ (K = 4 ∨ K = 5)) : K = 1 ∨ K = 2 ∨ K = 3 ∨ K = 6 ∨ K = 7 ∨ K = 8 ∨ K = 9 ∨ K = 10 := by omega
theorem b_pos {b : Nat} (h : ((b : Int) != 0) = true) : ¬ b = 0 ∧ ¬ (b : Int) = 0 := by
  rw [bne_iff_ne] at h
  exact ⟨fun e => h (by rw [e]; rfl), h⟩
theorem b_zero {b : Nat} (h : ((b : Int) != 0) = false) : b = 0 := by simpa using h
theorem b_far {b : Nat} (h : decide ((b : Int) < 32) = false) : ¬ b < 32 := by rw [decide_eq_false_iff_not] at h; omega
theorem na_div {K : Nat} : (divG (K : Int) = true) ↔ K = 4 ∨ K = 5 := by
  unfold divG
  rw [decide_eq_true_eq]
  omega
theorem na_wrap {K lo : Nat} (hK : 1 + lo % 10 = K) : IntKind.i64.wrap (1 + (lo : Int) % 10) = (K : Int) := by rw [IntKind.wrap_i64]; omega

def uv (n : Nat) : Value := .int .u32 (n : Int)
theorem read_true (v1 v2 v3 v6 v7 v8 v9 v10 q r : Nat) {K : Nat} (hK : 1 ≤ K ∧ K ≤ 10) : (([uv 0, uv v1, uv v2, uv v3, uv 0, uv 0, uv v6, uv v7, uv v8, uv v9, uv v10].toArray.setIfInBounds 4 (uv q)).setIfInBounds 5 (uv r))[K]? = some (uv (([0, v1, v2, v3, q, r, v6, v7, v8, v9, v10] : List Nat).getD K 0)) := by
  rcases ten_cases hK with rfl | rfl | rfl | rfl | rfl | rfl | rfl | rfl | rfl | rfl <;> rfl
theorem read_false (v1 v2 v3 v6 v7 v8 v9 v10 q r : Nat) {K : Nat} (hK : 1 ≤ K ∧ K ≤ 10) (h4 : ¬ (K = 4 ∨ K = 5)) : ([uv 0, uv v1, uv v2, uv v3, uv 0, uv 0, uv v6, uv v7, uv v8, uv v9, uv v10].toArray)[K]? = some (uv (([0, v1, v2, v3, q, r, v6, v7, v8, v9, v10] : List Nat).getD K 0)) := by
  rcases eight_cases hK h4 with rfl | rfl | rfl | rfl | rfl | rfl | rfl | rfl <;> rfl

end Go.Proofs.Ytdajpnlpcdnckaa

namespace Go.Proofs.Ytdajpnlpcdnckaa
open Go.ChangeShapes Go.WideShapes Go.ChangeAt Go.RowKit
set_option maxRecDepth 100000

theorem own : ownKnob Try.prog.godebug = none := by kernel_rfl
theorem laidOut : laidOutB Try.prog = true := by kernel_rfl
theorem bytes5 : Try.prog.bytesOf 5 = 1 := by kernel_rfl

theorem open_bytes {H : Type} {enc : TypeId × Value → H} {P : Program} {W : World} {t e : TypeId} {d : DataW H} {ps : List MemPlace} {a : Option Addr} {len cap : Nat}
    (ht : P.underlying t = some (.slice e)) (he : P.underlying e = some (.int .u8)) (hc : P.cellsOf e = 1)
    (h : DataW.Trod enc P W 0 (fun _ => true) true t (.slice a len cap) d ps) :
    ∃ xs : List UInt8, len = xs.length ∧ Cells W a xs ∧ (a = none → cap = 0) ∧ ((d = .nil ∧ xs = []) ∨ ∃ elems spare, d = .slice elems spare ∧ xs.length ≤ elems.length + spare.length) := by
  obtain ⟨fuel, hf⟩ := h
  rcases open_ints ht he hc hf with ⟨hcs, hx⟩ | ⟨x, l, c, zs, hcs, _, hl, hm, hz, hx, hcell, hwz⟩
  · simp [Value.cells] at hcs
    obtain ⟨rfl, rfl, rfl⟩ := hcs
    simp only [Prod.mk.injEq] at hx
    exact ⟨[], rfl, ⟨fun _ => rfl, fun ad had => (by cases had)⟩, fun _ => rfl, .inl ⟨hx.1, rfl⟩⟩
  · simp [Value.cells] at hcs
    obtain ⟨rfl, rfl, rfl⟩ := hcs
    simp only [Prod.mk.injEq] at hx
    have hz' : zs.length = cap := by simpa using hz
    have hlen : ((zs.take len).map fun z => UInt8.ofNat z.toNat).length = len := by simp; omega
    refine ⟨(zs.take len).map fun z => UInt8.ofNat z.toNat, hlen.symm, ⟨fun h => (by cases h), fun ad had i hi => ?_⟩, fun h => (by cases h), .inr ⟨_, _, hx.1, ?_⟩⟩
    · obtain rfl := Option.some.inj had
      rw [hlen] at hi
      have hiz : i < zs.length := by omega
      rw [hcell i hiz]
      have hw := bounds_u8 (hwz (zs[i]) (List.getElem_mem hiz))
      simp only [List.getD_eq_getElem?_getD, List.getElem?_eq_getElem hiz, Option.getD_some, List.getElem_map, List.getElem_take, bv]
      congr 2
      simp
      omega
    · rw [hlen]
      simp [lits]
      omega

theorem bulk_one {H : Type} (d : DataW H) : 1 ≤ Rows.uptoBulk d := by
  unfold Rows.uptoBulk
  split <;> omega

theorem bulk_all {H : Type} (l : List (DataW H)) : l.length ≤ Rows.uptoBulkAll l := by
  induction l with
  | nil => exact Nat.zero_le _
  | cons x r ih =>
    have := bulk_one x
    rw [Rows.uptoBulkAll, List.length_cons]
    omega

/-- A list's places count. -/
theorem bulk_slice {H : Type} (elems spare : List (DataW H)) : elems.length + spare.length + 1 ≤ Rows.uptoBulk (.slice elems spare) := by
  have h1 := bulk_all elems
  have h2 := bulk_all spare
  rw [Rows.uptoBulk]
  omega

/-- A text's letters count. -/
theorem bulk_string {H : Type} (s : ByteArray) : Rows.uptoBulk (DataW.lit (H := H) (.string s.data.toList)) = s.size + 1 := by
  rw [Rows.uptoBulk, Array.length_toList]
  rfl

end Go.Proofs.Ytdajpnlpcdnckaa
