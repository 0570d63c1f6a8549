import Derived.Test.YtlfmddjppejmaaaGreatDoorqLotQ12
import Derived.Deep.RegionHeld3
set_option maxHeartbeats 64000000
set_option maxRecDepth 100000
namespace Go.Proofs.YtlfmddjppejmaaaGreatDoor
open Go.RowKit
def M9 (gp : Option Nat) (nx ny : Nat) : Bool := match gp with
 | none => nx == 8
 | some _ => decide (nx + ny ≤ 7)
def a2v (s H T : List UInt8) (gp : Option Nat) : Prop := match gp with
 | none => H = s ∧ T = []
 | some k => H = s.take k ∧ T = s.drop (k + 2)
theorem a2Q (s H T : List UInt8) (h : a2v s H T (x7 s)) :
  x3 s = (k6 H).bind fun x => (k6 T).bind fun y => if M9 (x7 s) x.length y.length = true then some (j2 (x ++ List.replicate (8 - x.length - y.length) 0 ++ y)) else none := by
 unfold x3
 cases hg : x7 s with
 | none =>
  rw [hg] at h
  obtain ⟨rfl, rfl⟩ := h
  simp only
  have e : k6 [] = some [] := rfl
  cases k6 H with
  | none => rfl
  | some x =>
   rw [e]
   simp only [Option.bind_some, M9, List.length_nil, List.append_nil, Nat.sub_zero, beq_iff_eq]
   by_cases h8 : x.length = 8
   ·rw [if_pos h8, if_pos h8, h8]; simp
   ·rw [if_neg h8, if_neg h8]
 | some k =>
  rw [hg] at h
  obtain ⟨rfl, rfl⟩ := h
  simp only [M9, decide_eq_true_eq]
theorem a5P {α β : Type} {f : α → Option β} {xs : List α} {vs : List β} (h : t7 f xs = some vs) : ∀ v ∈ vs, ∃ x ∈ xs, f x = some v := by
 induction xs generalizing vs with
 | nil => simp [t7] at h; subst h; intro v hv; cases hv
 | cons x r ih =>
  simp only [t7] at h
  cases hx : f x with
  | none => rw [hx] at h; cases h
  | some u =>
   rw [hx] at h
   cases hr : t7 f r with
   | none => rw [hr] at h; cases h
   | some us =>
    rw [hr] at h
    simp only [Option.bind_some, Option.map_some, Option.some.injEq] at h
    subst h
    intro v hv
    rcases List.mem_cons.1 hv with rfl | hv
    ·exact ⟨x, by simp, hx⟩
    ·obtain ⟨y, hy, e⟩ := ih hr v hv
     exact ⟨y, by simp [hy], e⟩
theorem a1H {s : List UInt8} {gs : List Nat} (h : k6 s = some gs) : ∀ g ∈ gs, g < 65536 := by
 unfold k6 at h
 split at h
 ·simp at h; subst h; intro g hg; cases hg
 ·split at h
  ·cases h
  ·intro g hg
   obtain ⟨x, -, e⟩ := a5P h g hg
   exact a2s e
theorem a1f {s : List UInt8} {gs : List Nat} (h : k6 s = some gs) : gs.length ≤ 8 := by
 unfold k6 at h
 split at h
 ·simp at h; subst h; simp
 ·split at h
  ·cases h
  ·rw [a3r h]; omega
def D7 : List UInt8 → Nat → List Nat → List UInt8
 | a, _, [] => a
 | a, k, g :: r => D7 ((a.set k (UInt8.ofNat (g / 256))).set (k + 1) (UInt8.ofNat g)) (k + 2) r
theorem a4g (gs : List Nat) (a b : List UInt8) (h : 2 * gs.length ≤ b.length) : D7 (a ++ b) a.length gs = a ++ (j2 gs ++ b.drop (2 * gs.length)) := by
 induction gs generalizing a b with
 | nil => simp [D7, j2]
 | cons g r ih =>
  match b, h with
  | p :: q :: b, h =>
   have e : ((a ++ p :: q :: b).set a.length (UInt8.ofNat (g / 256))).set (a.length + 1) (UInt8.ofNat g) = (a ++ [UInt8.ofNat (g / 256), UInt8.ofNat g]) ++ b := by
    rw [List.set_append_right _ _ (Nat.le_refl _), List.set_append_right _ _ (by omega)]
    simp
   rw [D7, e, show a.length + 2 = (a ++ [UInt8.ofNat (g / 256), UInt8.ofNat g]).length by simp, ih _ _ (by simp at h; omega)]
   simp [j2, Nat.mul_add]
  | [_], h => simp at h; omega
  | [], h => simp at h
theorem a2g (gs : List Nat) : (j2 gs).length = 2 * gs.length := by
 induction gs with
 | nil => rfl
 | cons g r ih => simp only [j2, List.flatMap_cons, List.length_append, List.length_cons, List.length_nil] at *; omega
theorem a3H (a b : List Nat) : j2 (a ++ b) = j2 a ++ j2 b := by simp [j2]
theorem a6A (n : Nat) : j2 (List.replicate n 0) = List.replicate (2 * n) 0 := by
 induction n with
 | zero => rfl
 | succ n ih =>
  rw [List.replicate_succ, j2, List.flatMap_cons, ← j2, ih, show 2 * (n + 1) = 2 * n + 1 + 1 by omega, List.replicate_succ, List.replicate_succ]
  rfl
theorem a7y (x y : List Nat) (h : x.length + y.length ≤ 8) : D7 (D7 (List.replicate 16 0) 0 x) (16 - 2 * y.length) y = j2 (x ++ List.replicate (8 - x.length - y.length) 0 ++ y) := by
 have e1 : D7 (List.replicate 16 0) 0 x = j2 x ++ List.replicate (16 - 2 * x.length) 0 := by
  have := a4g x [] (List.replicate 16 0) (by rw [List.length_replicate]; omega)
  rw [List.nil_append, List.length_nil, List.nil_append, List.drop_replicate] at this
  exact this
 rw [e1, a3H, a3H, a6A]
 have e2 : List.replicate (16 - 2 * x.length) (0 : UInt8) = List.replicate (2 * (8 - x.length - y.length)) 0 ++ List.replicate (2 * y.length) 0 := by
  rw [List.replicate_append_replicate]
  congr 1
  omega
 have e3 : 16 - 2 * y.length = (j2 x ++ List.replicate (2 * (8 - x.length - y.length)) (0 : UInt8)).length := by
  rw [List.length_append, a2g, List.length_replicate]
  omega
 rw [e2, ← List.append_assoc, e3, a4g y _ _ (by simp)]
 simp
theorem a58 (s : ByteArray) (w : World) (hs : s.size ≤ 1048576) :
  Calls Tryz.prog 78 #[.string s] w fun e w' => e = .returned (.tuple #[X0 16 (x3 (sl s)), .int .i64 (X1 (x3 (sl s)))]) ∧ w.grownBy w' none := by
 have hl := j0 s
 have HPH : Hid (∀ H T, a2v (sl s) H T (x7 (sl s)) → x3 (sl s) = (k6 H).bind fun x => (k6 T).bind fun y => if M9 (x7 (sl s)) x.length y.length = true then some (j2 (x ++ List.replicate (8 - x.length - y.length) 0 ++ y)) else none) := fun H T h => a2Q _ H T h
 have CG : Hid (∀ W : World, Calls Tryz.prog 89 #[.string s] W fun e w' => e = .returned (.int .i64 (T8 (x7 (sl s)))) ∧ W = w') := fun W => a96 s W (by omega)
 have HK : Hid (∀ k, x7 (sl s) = some k → k + 2 ≤ s.size) := fun k hk => by
  have := a74 (sl s) k hk
  omega
 generalize x3 (sl s) = ans at *
 generalize x7 (sl s) = gp at *
 go_enter Tryz.func78, Tryz.ntmps78
 go_upto_region 2 with fail
 have A0 := AAt.alloc w 52 (List.replicate 16 0)
 have A1 := AAt.alloc (w.alloc (.cells ((List.replicate 16 (0 : UInt8)).map bv).toArray 52)) 52 (List.replicate 16 0)
 have K1 := World.grownBy_alloc (w.alloc (.cells ((List.replicate 16 (0 : UInt8)).map bv).toArray 52)) (.cells ((List.replicate 16 (0 : UInt8)).map bv).toArray 52) none
 have A2 := A0.grown K1 (by simp)
 have G0 := d5 (World.grownBy_alloc w (.cells ((List.replicate 16 (0 : UInt8)).map bv).toArray 52) none) K1
 rw [show (w.alloc (.cells ((List.replicate 16 (0 : UInt8)).map bv).toArray 52)).heap.size = w.heap.size + 1 by simp] at A1
 rw [show ((List.replicate 16 (0 : UInt8)).map bv).toArray = #[.int .u8 0, .int .u8 0, .int .u8 0, .int .u8 0, .int .u8 0, .int .u8 0, .int .u8 0, .int .u8 0, .int .u8 0, .int .u8 0, .int .u8 0, .int .u8 0, .int .u8 0, .int .u8 0, .int .u8 0, .int .u8 0] from rfl] at A1 A2 G0
 obtain ⟨R, hR, hR2⟩ : ∃ R, w.heap.size = R ∧ w.heap.size ≤ R := ⟨_, rfl, Nat.le_refl _⟩
 obtain ⟨A, hA, hA2⟩ : ∃ A, w.heap.size + 1 = A ∧ w.heap.size ≤ A := ⟨_, rfl, by omega⟩
 have hRA : R ≠ A := by omega
 rw [hA] at A1 ⊢
 rw [hR] at A2 ⊢
 clear hA hR A0 K1
 generalize (w.alloc (.cells #[.int .u8 0, .int .u8 0, .int .u8 0, .int .u8 0, .int .u8 0, .int .u8 0, .int .u8 0, .int .u8 0, .int .u8 0, .int .u8 0, .int .u8 0, .int .u8 0, .int .u8 0, .int .u8 0, .int .u8 0, .int .u8 0] 52)).alloc (.cells #[.int .u8 0, .int .u8 0, .int .u8 0, .int .u8 0, .int .u8 0, .int .u8 0, .int .u8 0, .int .u8 0, .int .u8 0, .int .u8 0, .int .u8 0, .int .u8 0, .int .u8 0, .int .u8 0, .int .u8 0, .int .u8 0] 52) = wa at *
 have HA1 : Hid (AAt wa A 52 (List.replicate 16 0) ∧ AAt wa R 52 (List.replicate 16 0)) := ⟨A1, A2⟩
 clear A1 A2
 go_wp2_with fail
 refine (CG.out _).mono ?_
 rintro e w1 ⟨rfl, rfl⟩
 clear CG
 go_upto_if 19 with fail
 go_cut [6, 7, 19] (fun h t c wx => ∃ H T : ByteArray, h = .string H ∧ t = .string T ∧ c = .bool gp.isSome ∧ Hid (a2v (sl s) (sl H) (sl T) gp) ∧ H.size ≤ 1048576 ∧ T.size ≤ 1048576 ∧ wx = wa)
 case first =>
  cases gp with
  | none =>
   rw [show T8 none = -1 from rfl]
   clear HK HPH
   go_wp2
   go_meet
   exact ⟨s, ⟨#[]⟩, rfl, rfl, rfl, ⟨rfl, rfl⟩, hs, by decide, rfl⟩
  | some k =>
   have hk := HK.out k rfl
   rw [show T8 (some k) = (k : Int) from rfl]
   clear HK HPH
   have k1 : (k : Int) ≤ (s.size : Int) := by omega
   have k2 : (k : Int) + 2 ≤ (s.size : Int) := by omega
   have k3 : ((k : Int) + 2).toNat = k + 2 := by omega
   go_wp2
   go_meet
   refine ⟨s.extract 0 k, s.extract (k + 2) s.size, rfl, rfl, rfl, ⟨?_, ?_⟩, ?_, ?_, rfl⟩
   ·rw [N1]; simp
   ·rw [N1, List.take_of_length_le (by rw [List.length_drop]; omega)]
   ·rw [ByteArray.size_extract]; omega
   ·rw [ByteArray.size_extract]; omega
 case rest =>
  obtain ⟨H, T, rfl, rfl, rfl, HH, hH, hT, hwx⟩ := hcut
  subst hwx
  have HP2 : Hid (ans = (k6 (sl H)).bind fun x => (k6 (sl T)).bind fun y => if M9 gp x.length y.length = true then some (j2 (x ++ List.replicate (8 - x.length - y.length) 0 ++ y)) else none) := HPH.out _ _ HH.out
  have CX := fun W => a52 H W hH
  have CY := fun W => a52 T W hT
  have HLX : Hid (∀ x, k6 (sl H) = some x → x.length ≤ 8 ∧ ∀ g ∈ x, g < 65536) := fun x hx => ⟨a1f hx, a1H hx⟩
  have HLY : Hid (∀ x, k6 (sl T) = some x → x.length ≤ 8 ∧ ∀ g ∈ x, g < 65536) := fun x hx => ⟨a1f hx, a1H hx⟩
  have HHN : Hid (gp = none → k6 (sl T) = some []) := fun e => by
   have := HH.out
   rw [e] at this
   rw [this.2]
   rfl
  clear HPH HH HK
  generalize k6 (sl H) = X at *
  generalize k6 (sl T) = Y at *
  go_wp2_with fail
  refine (CX _).mono ?_
  rintro e w2 ⟨vx, rfl, OX, GX⟩
  go_wp2_with fail
  refine (CY _).mono ?_
  rintro e w3 ⟨vy, rfl, OY, GY⟩
  obtain ⟨ax, cx, rfl, CVX, -, -, -, hax, -⟩ := L1 (y8 OX GY)
  obtain ⟨ay, cy, rfl, CVY, -, -, -, hay, -⟩ := L1 OY
  have HAX : Hid (∀ ad, ax = some ad → ad.block ≠ A) := fun ad had e => by
   have := (hax ad had).1
   have := HA1.out.1.lt
   omega
  have HAY : Hid (∀ ad, ay = some ad → ad.block ≠ A) := fun ad had e => by
   have := (hay ad had).1
   have := HA1.out.1.lt
   have := GX.size
   omega
  have G3 := d5 G0 (d5 GX GY)
  have HA3 : Hid (AAt w3 A 52 (List.replicate 16 0) ∧ AAt w3 R 52 (List.replicate 16 0)) := ⟨(HA1.out.1.grown GX (by simp)).grown GY (by simp), (HA1.out.2.grown GX (by simp)).grown GY (by simp)⟩
  have HCX : Hid (CV w3 ax ((X.getD []).map gv)) := CVX
  have HCY : Hid (CV w3 ay ((Y.getD []).map gv)) := CVY
  clear CX CY OX OY GX GY hax hay G0 HA1 CVX CVY
  go_upto_region 9 with fail
  go_cut [5, 9, 11, 63] (fun z b1 b2 c wx => z = .int .i64 (T8 gp) ∧ b1 = .bool X.isSome ∧ b2 = .bool Y.isSome ∧ c = .bool (!(X.isSome && (Y.isSome && M9 gp (X.getD []).length (Y.getD []).length))) ∧ wx = w3)
  case first =>
   have hxl : (X.getD []).length ≤ 8 := by
    cases X with
    | none => simp
    | some x => exact (HLX.out x rfl).1
   have hyl : (Y.getD []).length ≤ 8 := by
    cases Y with
    | none => simp
    | some x => exact (HLY.out x rfl).1
   clear HCX HCY HP2 HLX HLY HA3
   have bb : ∀ b : Bool, b = true ∨ b = false := by decide
   rcases bb X.isSome with hx | hx
   ·rcases bb Y.isSome with hy | hy
    ·have HXY : Hid (X.isSome = true ∧ Y.isSome = true) := ⟨hx, hy⟩
     by_cases hg : gp = none
     ·have hz : T8 gp = -1 := by rw [hg]; rfl
      have HZ : Hid (T8 gp = -1) := hz
      have HG : Hid (gp = none) := hg
      clear hg bb
      rcases (by decide : ∀ b : Bool, b = true ∨ b = false) (((X.getD []).length : Int) != 8) with h8 | h8
      ·have HF : Hid (M9 gp (X.getD []).length (Y.getD []).length = false) := by
        show _ = _
        rw [HG.out]
        show ((X.getD []).length == 8) = false
        rw [beq_eq_false_iff_ne]
        rw [bne_iff_ne] at h8
        omega
       go_wp2
       go_meet
       exact ⟨by rw [HZ.out], by rw [HXY.out.1], by rw [HXY.out.2], by rw [HXY.out.1, HXY.out.2, HF.out]; rfl, rfl⟩
      ·have HF : Hid (M9 gp (X.getD []).length (Y.getD []).length = true) := by
        show _ = _
        rw [HG.out]
        show ((X.getD []).length == 8) = true
        rw [beq_iff_eq]
        have := bne_eq_false_iff_eq.1 h8
        omega
       go_wp2
       go_meet
       exact ⟨by rw [HZ.out], by rw [HXY.out.1], by rw [HXY.out.2], by rw [HXY.out.1, HXY.out.2, HF.out]; rfl, rfl⟩
     ·obtain ⟨k, hk⟩ : ∃ k, gp = some k := by
       cases gp with
       | none => exact absurd rfl hg
       | some k => exact ⟨k, rfl⟩
      have hz : T8 gp = (k : Int) := by rw [hk]; rfl
      have HZ : Hid (T8 gp = (k : Int)) := hz
      have HF : Hid (M9 gp (X.getD []).length (Y.getD []).length = !decide ((7 : Int) < ((X.getD []).length : Int) + ((Y.getD []).length : Int))) := by
       show _ = _
       rw [hk]
       show decide ((X.getD []).length + (Y.getD []).length ≤ 7) = _
       by_cases h : (X.getD []).length + (Y.getD []).length ≤ 7
       ·rw [decide_eq_true h, decide_eq_false (by omega)]; rfl
       ·rw [decide_eq_false h, decide_eq_true (by omega)]; rfl
      have hk0 : ¬ (k : Int) < 0 := by omega
      have hk1 : (0 : Int) ≤ (k : Int) := by omega
      clear hk hg bb
      by_cases h7 : (7 : Int) < ((X.getD []).length : Int) + ((Y.getD []).length : Int)
      ·have HF2 : Hid (M9 gp (X.getD []).length (Y.getD []).length = false) := by
        show _ = _
        rw [HF.out, decide_eq_true h7]; rfl
       clear HF
       go_wp2
       go_meet
       exact ⟨by rw [HZ.out], by rw [HXY.out.1], by rw [HXY.out.2], by rw [HXY.out.1, HXY.out.2, HF2.out]; rfl, rfl⟩
      ·have HF2 : Hid (M9 gp (X.getD []).length (Y.getD []).length = true) := by
        show _ = _
        rw [HF.out, decide_eq_false h7]; rfl
       clear HF
       go_wp2
       go_meet
       exact ⟨by rw [HZ.out], by rw [HXY.out.1], by rw [HXY.out.2], by rw [HXY.out.1, HXY.out.2, HF2.out]; rfl, rfl⟩
    ·have HXY : Hid (X.isSome = true ∧ Y.isSome = false) := ⟨hx, hy⟩
     go_wp2
     go_meet
     exact ⟨rfl, by rw [HXY.out.1], by rw [HXY.out.2], by rw [HXY.out.1, HXY.out.2]; rfl, rfl⟩
   ·have HXY : Hid (X.isSome = false) := hx
    go_wp2
    go_meet
    exact ⟨rfl, by rw [HXY.out], rfl, by rw [HXY.out]; rfl, rfl⟩
  case rest =>
   obtain ⟨rfl, rfl, rfl, rfl, hwx⟩ := hcut
   subst hwx
   obtain ⟨w3, hw3⟩ : ∃ w3 : World, w3 = wc := ⟨_, rfl⟩
   subst hw3
   have z16 : (Tryz.prog.info? 52).map (·.size) = some ((List.replicate 16 (0 : UInt8)).map bv).toArray.size := E7
   cases hbad : (X.isSome && (Y.isSome && M9 gp (X.getD []).length (Y.getD []).length)) with
   | false =>
    have HAN : Hid (ans = none) := by
     show ans = none
     rw [HP2.out]
     cases X with
     | none => rfl
     | some x =>
      cases Y with
      | none => rfl
      | some y =>
       have : M9 gp x.length y.length = false := by simpa using hbad
       simp only [Option.bind_some]
       rw [if_neg (by rw [this]; simp)]
    have B1 := HA3.out.1
    have B2 := HA3.out.2
    have HZ16 : Hid ((Tryz.prog.info? 52).map (·.size) = some ((List.replicate 16 (0 : UInt8)).map bv).toArray.size) := z16
    clear HP2 HLX HLY HCX HCY HAX HAY hbad z16
    generalize (X.getD []).length = nx
    generalize (Y.getD []).length = ny
    go_wp2_with (first | refine wpList_load_row rfl 52 (.tmp 4) rfl A rfl 52 ((List.replicate 16 (0 : UInt8)).map bv).toArray (0, 0) _ B1 Tryz.underlying52 rfl HZ16.out ?_ | refine wpList_store_row rfl 52 (.tmp 2) (.tmp 64) rfl R ((List.replicate 16 (0 : UInt8)).map bv).toArray rfl rfl 52 _ B2 HZ16.out rfl (I1 _) ?_)
    refine bodyPost_ret (U2 rfl _ _ R (List.replicate 16 0) 16 5 rfl (B2.setRow (List.replicate 16 0)) Tryz.underlying52 E7) rfl ?_
    exact ⟨by rw [HAN.out]; rfl, T9 G3 _ _ (.inr hR2)⟩
   | true =>
    obtain ⟨x, rfl⟩ : ∃ x, X = some x := by
     cases X with
     | none => simp at hbad
     | some x => exact ⟨x, rfl⟩
    obtain ⟨y, rfl⟩ : ∃ y, Y = some y := by
     cases Y with
     | none => simp at hbad
     | some y => exact ⟨y, rfl⟩
    obtain ⟨lx, gx⟩ := HLX.out x rfl
    obtain ⟨ly, gy⟩ := HLY.out y rfl
    have hfit : M9 gp x.length y.length = true := by simpa using hbad
    have HXY : Hid (x.length + y.length ≤ 8) := by
     show x.length + y.length ≤ 8
     cases gp with
     | none =>
      have : x.length = 8 := by simpa [M9] using hfit
      have hy0 : y.length = 0 := by rw [Option.some.inj (HHN.out rfl)]; rfl
      omega
     | some k =>
      have : x.length + y.length ≤ 7 := by simpa [M9] using hfit
      omega
    have HAN : Hid (ans = some (D7 (D7 (List.replicate 16 0) 0 x) (16 - 2 * y.length) y)) := by
     show ans = _
     rw [HP2.out, a7y x y HXY.out]
     simp only [Option.bind_some]
     rw [if_pos hfit]
    have HCX2 : Hid (CV w3 ax (x.map gv)) := HCX
    have HCY2 : Hid (CV w3 ay (y.map gv)) := HCY
    have HGX : Hid (∀ g ∈ x, g < 65536) := gx
    have HGY : Hid (∀ g ∈ y, g < 65536) := gy
    dsimp only [Option.getD_some, Option.isSome_some]
    clear HP2 HLX HLY HCX HCY hbad hfit gx gy z16 HHN
    go_wp2
    go_loopw [12] (fun i wr => ∃ (j : Nat) (cur : List UInt8), j ≤ x.length ∧ i = .int .i64 j ∧ Hid (cur.length = 16) ∧ Hid (D7 cur (2 * j) (x.drop j) = D7 (List.replicate 16 0) 0 x) ∧ Hid (AAt wr A 52 cur) ∧ Hid (AAt wr R 52 (List.replicate 16 0)) ∧ w3.grownBy wr (some A)) (fun i _ => x.length - (intOf i).toNat)
    case atStart => exact ⟨0, List.replicate 16 0, Nat.zero_le _, rfl, (rfl : (List.replicate 16 (0 : UInt8)).length = 16), (rfl : D7 (List.replicate 16 0) (2 * 0) (x.drop 0) = D7 (List.replicate 16 0) 0 x), HA3.out.1, HA3.out.2, World.grownBy.refl _ _⟩
    case round =>
     obtain ⟨j, cur, hj, rfl, HCL, HLY, BA, BR, G⟩ := hrel
     by_cases hlt : j < x.length
     ·have hlt' : (j : Int) < (x.length : Int) := by omega
      obtain ⟨b, o, rfl, hc⟩ := HCX2.out.nums hlt
      have hcj := G.cell (hc j hlt) (by intro e; exact HAX.out _ rfl (Option.some.inj e))
      have hgj := HGX.out x[j] (List.getElem_mem hlt)
      have HD : Hid (x.drop j = x[j] :: x.drop (j + 1)) := List.drop_eq_getElem_cons hlt
      have hc0 := hc j hlt
      clear hc
      generalize x[j] = g at *
      obtain ⟨q, hq, hq8⟩ : ∃ q : Nat, g / 256 = q ∧ q < 256 := ⟨_, rfl, by omega⟩
      obtain ⟨r, hr, hr8⟩ : ∃ r : Nat, g % 256 = r ∧ r < 256 := ⟨_, rfl, by omega⟩
      have hqi : (g : Int) / 256 = (q : Int) := by omega
      have hri : (g : Int) % 256 = (r : Int) := by omega
      have HN : Hid (UInt8.ofNat (g / 256) = UInt8.ofNat q ∧ UInt8.ofNat g = UInt8.ofNat r) := by
       refine ⟨by rw [hq], ?_⟩
       rw [← hr]
       apply UInt8.toNat_inj.1
       simp
      obtain ⟨K, hK⟩ : ∃ K : Nat, 2 * j = K := ⟨_, rfl⟩
      have HK : Hid (2 * j = K) := hK
      have HLN : Hid (D7 ((cur.set K (UInt8.ofNat q)).set (K + 1) (UInt8.ofNat r)) (2 * (j + 1)) (x.drop (j + 1)) = D7 (List.replicate 16 0) 0 x) := by
       show _ = D7 (List.replicate 16 0) 0 x
       rw [← HLY.out, HD.out, D7, HN.out.1, HN.out.2, hK]
       try rw [show K + 2 = (2 * (j + 1)) by omega]
       try rfl
      clear hq hr HN HD HLY
      have hKi : 2 * (j : Int) = (K : Int) := by omega
      have hK16 : K + 1 < 16 := by omega
      clear hK
      have hKj : (K : Int) < 16 := by omega
      have hKk : (K : Int) + 1 < 16 := by omega
      have hKn : ((K : Int) + 1).toNat = K + 1 := by omega
      have f1 := BA.out.free K
      have e1 : wr.cell? ⟨A, K, none⟩ = some (.int .u8 ((cur[K]'(by have := HCL.out; omega)).toNat : Int)) := BA.out.cell (by have := HCL.out; omega)
      have BA2 := BA.out.set K q hq8
      have f2 := BA2.free (K + 1)
      have hc2 : K + 1 < (cur.set K (UInt8.ofNat q)).length := by rw [List.length_set]; have := HCL.out; omega
      have e2 := BA2.cell hc2
      generalize ((cur[K]'(by have := HCL.out; omega)).toNat : Int) = o1 at e1
      generalize ((cur.set K (UInt8.ofNat q))[K + 1].toNat : Int) = o2 at e2
      have BA3 : Hid (AAt ((wr.setCell ⟨A, K, none⟩ (.int .u8 (q : Int))).setCell ⟨A, K + 1, none⟩ (.int .u8 (r : Int))) A 52 ((cur.set K (UInt8.ofNat q)).set (K + 1) (UInt8.ofNat r))) := BA2.set (K + 1) r hr8
      have BR2 : Hid (AAt ((wr.setCell ⟨A, K, none⟩ (.int .u8 (q : Int))).setCell ⟨A, K + 1, none⟩ (.int .u8 (r : Int))) R 52 (List.replicate 16 0)) := (BR.out.setOther _ hRA).setOther _ hRA
      have G1 : w3.grownBy (wr.setCell ⟨A, K, none⟩ (.int .u8 (q : Int))) (some A) := L5 G _ _ (.inl rfl)
      have hcj2 : (wr.setCell ⟨A, K, none⟩ (.int .u8 (q : Int))).cell? ⟨b, o + j, none⟩ = some (.int .i64 (g : Int)) := G1.cell hc0 (by intro e; exact HAX.out _ rfl (Option.some.inj e))
      have G2 : w3.grownBy ((wr.setCell ⟨A, K, none⟩ (.int .u8 (q : Int))).setCell ⟨A, K + 1, none⟩ (.int .u8 (r : Int))) (some A) := L5 G1 _ _ (.inl rfl)
      have HCL2 : Hid (((cur.set K (UInt8.ofNat q)).set (K + 1) (UInt8.ofNat r)).length = 16) := by
       show _ = 16
       rw [List.length_set, List.length_set]
       exact HCL.out
      have w1' : IntKind.u8.wrap (q : Int) = q := by rw [IntKind.wrap_u8]; omega
      have w2' : IntKind.u8.wrap (g : Int) = r := by rw [IntKind.wrap_u8]; omega
      clear BA BR BA2 hc0 G G1 HCL hc2
      go_wp2
      go_roundw
      case rel => exact ⟨j + 1, _, by omega, by go_num, HCL2, HLN, BA3, BR2, G2⟩
      case measure => simp [intOf]; omega
     ·obtain rfl : j = x.length := by omega
      have HC1 : Hid (cur = D7 (List.replicate 16 0) 0 x) := by
       show cur = _
       rw [← HLY.out, List.drop_length]
       rfl
      obtain ⟨cur1, hcur1⟩ : ∃ cur1, cur1 = cur := ⟨_, rfl⟩
      have HAN2 : Hid (ans = some (D7 cur1 (16 - 2 * y.length) y)) := by
       show ans = _
       rw [HAN.out, hcur1, HC1.out]
      obtain ⟨wo, rfl⟩ : ∃ wo : World, wo = wr := ⟨_, rfl⟩
      have HL1 : Hid (cur1.length = 16) := by
       show cur1.length = 16
       rw [hcur1]
       exact HCL.out
      have BA0 : Hid (AAt wo A 52 cur1) := by rw [hcur1]; exact BA
      clear HCL HLY BA HC1 HAN HCX2 HGX HAX hcur1 cur
      go_wp2
      go_loopw [13] (fun i wr => ∃ (j : Nat) (cur : List UInt8), j ≤ y.length ∧ i = .int .i64 j ∧ Hid (cur.length = 16) ∧ Hid (D7 cur (16 - 2 * y.length + 2 * j) (y.drop j) = D7 cur1 (16 - 2 * y.length) y) ∧ Hid (AAt wr A 52 cur) ∧ Hid (AAt wr R 52 (List.replicate 16 0)) ∧ w3.grownBy wr (some A)) (fun i _ => y.length - (intOf i).toNat)
      case atStart => exact ⟨0, cur1, Nat.zero_le _, rfl, HL1, (rfl : D7 cur1 (16 - 2 * y.length + 2 * 0) (y.drop 0) = D7 cur1 (16 - 2 * y.length) y), BA0, BR, G⟩
      case round =>
       clear BA0 BR G
       obtain ⟨j, cur, hj, rfl, HCL, HLY, BA, BR, G⟩ := hrel
       by_cases hlt : j < y.length
       ·have hlt' : (j : Int) < (y.length : Int) := by omega
        obtain ⟨b, o, rfl, hc⟩ := HCY2.out.nums hlt
        have hcj := G.cell (hc j hlt) (by intro e; exact HAY.out _ rfl (Option.some.inj e))
        have hgj := HGY.out y[j] (List.getElem_mem hlt)
        have HD : Hid (y.drop j = y[j] :: y.drop (j + 1)) := List.drop_eq_getElem_cons hlt
        have hc0 := hc j hlt
        clear hc
        generalize y[j] = g at *
        obtain ⟨q, hq, hq8⟩ : ∃ q : Nat, g / 256 = q ∧ q < 256 := ⟨_, rfl, by omega⟩
        obtain ⟨r, hr, hr8⟩ : ∃ r : Nat, g % 256 = r ∧ r < 256 := ⟨_, rfl, by omega⟩
        have hqi : (g : Int) / 256 = (q : Int) := by omega
        have hri : (g : Int) % 256 = (r : Int) := by omega
        have HN : Hid (UInt8.ofNat (g / 256) = UInt8.ofNat q ∧ UInt8.ofNat g = UInt8.ofNat r) := by
         refine ⟨by rw [hq], ?_⟩
         rw [← hr]
         apply UInt8.toNat_inj.1
         simp
        obtain ⟨K, hK⟩ : ∃ K : Nat, 16 - 2 * y.length + 2 * j = K := ⟨_, rfl⟩
        have HK : Hid (16 - 2 * y.length + 2 * j = K) := hK
        have HLN : Hid (D7 ((cur.set K (UInt8.ofNat q)).set (K + 1) (UInt8.ofNat r)) (16 - 2 * y.length + 2 * (j + 1)) (y.drop (j + 1)) = D7 cur1 (16 - 2 * y.length) y) := by
         show _ = D7 cur1 (16 - 2 * y.length) y
         rw [← HLY.out, HD.out, D7, HN.out.1, HN.out.2, hK]
         try rw [show K + 2 = (16 - 2 * y.length + 2 * (j + 1)) by omega]
         try rfl
        clear hq hr HN HD HLY
        have hKi : 16 - 2 * (y.length : Int) + 2 * (j : Int) = (K : Int) := by omega
        have hK16 : K + 1 < 16 := by omega
        clear hK
        have hKj : (K : Int) < 16 := by omega
        have hKk : (K : Int) + 1 < 16 := by omega
        have hKn : ((K : Int) + 1).toNat = K + 1 := by omega
        have f1 := BA.out.free K
        have e1 : wr.cell? ⟨A, K, none⟩ = some (.int .u8 ((cur[K]'(by have := HCL.out; omega)).toNat : Int)) := BA.out.cell (by have := HCL.out; omega)
        have BA2 := BA.out.set K q hq8
        have f2 := BA2.free (K + 1)
        have hc2 : K + 1 < (cur.set K (UInt8.ofNat q)).length := by rw [List.length_set]; have := HCL.out; omega
        have e2 := BA2.cell hc2
        generalize ((cur[K]'(by have := HCL.out; omega)).toNat : Int) = o1 at e1
        generalize ((cur.set K (UInt8.ofNat q))[K + 1].toNat : Int) = o2 at e2
        have BA3 : Hid (AAt ((wr.setCell ⟨A, K, none⟩ (.int .u8 (q : Int))).setCell ⟨A, K + 1, none⟩ (.int .u8 (r : Int))) A 52 ((cur.set K (UInt8.ofNat q)).set (K + 1) (UInt8.ofNat r))) := BA2.set (K + 1) r hr8
        have BR2 : Hid (AAt ((wr.setCell ⟨A, K, none⟩ (.int .u8 (q : Int))).setCell ⟨A, K + 1, none⟩ (.int .u8 (r : Int))) R 52 (List.replicate 16 0)) := (BR.out.setOther _ hRA).setOther _ hRA
        have G1 : w3.grownBy (wr.setCell ⟨A, K, none⟩ (.int .u8 (q : Int))) (some A) := L5 G _ _ (.inl rfl)
        have hcj2 : (wr.setCell ⟨A, K, none⟩ (.int .u8 (q : Int))).cell? ⟨b, o + j, none⟩ = some (.int .i64 (g : Int)) := G1.cell hc0 (by intro e; exact HAY.out _ rfl (Option.some.inj e))
        have G2 : w3.grownBy ((wr.setCell ⟨A, K, none⟩ (.int .u8 (q : Int))).setCell ⟨A, K + 1, none⟩ (.int .u8 (r : Int))) (some A) := L5 G1 _ _ (.inl rfl)
        have HCL2 : Hid (((cur.set K (UInt8.ofNat q)).set (K + 1) (UInt8.ofNat r)).length = 16) := by
         show _ = 16
         rw [List.length_set, List.length_set]
         exact HCL.out
        have w1' : IntKind.u8.wrap (q : Int) = q := by rw [IntKind.wrap_u8]; omega
        have w2' : IntKind.u8.wrap (g : Int) = r := by rw [IntKind.wrap_u8]; omega
        clear BA BR BA2 hc0 G G1 HCL hc2
        go_wp2
        go_roundw
        case rel => exact ⟨j + 1, _, by omega, by go_num, HCL2, HLN, BA3, BR2, G2⟩
        case measure => simp [intOf]; omega
       ·obtain rfl : j = y.length := by omega
        have hc : cur = D7 cur1 (16 - 2 * y.length) y := by
         rw [← HLY.out, List.drop_length]
         rfl
        have HAN3 : Hid (ans = some cur) := by
         show ans = _
         rw [HAN2.out, hc]
        have BA' := BA.out
        have BR' := BR.out
        have HZ1 : Hid ((Tryz.prog.info? 52).map (·.size) = some (cur.map bv).toArray.size ∧ ((List.replicate 16 (0 : UInt8)).map bv).toArray.size = (cur.map bv).toArray.size) := by
         refine ⟨?_, ?_⟩
         ·rw [A5, HCL.out]; exact E7
         ·rw [A5, A5, HCL.out]; rfl
        have HZ : Hid ((Tryz.prog.info? 52).map (·.size) = some cur.length) := by
         show _ = _
         rw [HCL.out]; exact E7
        have GF := T9 (z6 G3 G (fun x hx => by cases hx; exact hA2)) R (cur.map bv).toArray (.inr hR2)
        clear hc HLY HAN2 BA BR G
        go_wp2_with (first | refine wpList_load_row rfl 52 (.tmp 4) rfl A rfl 52 (cur.map bv).toArray (0, 0) _ BA' Tryz.underlying52 rfl HZ1.out.1 ?_ | refine wpList_store_row rfl 52 (.tmp 2) (.tmp 118) rfl R (cur.map bv).toArray rfl rfl 52 _ BR' HZ1.out.1 HZ1.out.2 (I1 _) ?_)
        refine bodyPost_ret (U2 rfl _ _ R cur 16 5 rfl (BR'.setRow cur) Tryz.underlying52 HZ.out) rfl ?_
        exact ⟨by rw [HAN3.out]; rfl, GF⟩

end Go.Proofs.YtlfmddjppejmaaaGreatDoor
