import Derived.Test.YtlfmddjppejmaaaGreatDoorqLotQ8
import Derived.Test.YtlfmddjppejmaaaGreatDoorqLotQ9
set_option maxHeartbeats 64000000
set_option maxRecDepth 100000
namespace Go.Proofs.YtlfmddjppejmaaaGreatDoor
open Go.RowKit
theorem a6K {c : UInt8} (h : j9 c = true) : v6 c.toNat = decide (J4 c.toNat < 16) ∧ (v6 c.toNat = true → m9 c.toNat = J4 c.toNat) := by
 have hn := a2a h
 generalize c.toNat = n at *
 unfold J4
 by_cases h1 : n ≤ 57
 ·have := a2i (c := n) (by omega)
  rw [if_pos h1, this.1, decide_eq_true (by omega)]
  exact ⟨rfl, fun _ => this.2⟩
 ·rw [if_neg h1]
  by_cases h2 : n ≤ 102
  ·have := a2j (c := n) (by omega)
   rw [this.1, decide_eq_true (by omega)]
   exact ⟨rfl, fun _ => this.2⟩
  ·have := a2k (c := n) (by omega) (by omega)
   rw [this.1, decide_eq_false (by omega)]
   exact ⟨rfl, fun h => by cases h⟩
theorem a6J {c : UInt8} (h : j9 c = true) : s8 c = decide (J4 c.toNat < 10) ∧ (s8 c = true → c.toNat - 48 = J4 c.toNat) := by
 have hn := a2a h
 unfold s8 J4
 generalize c.toNat = n at *
 by_cases h1 : n ≤ 57
 ·rw [if_pos h1, decide_eq_true h1, decide_eq_true (show 48 ≤ n by omega), decide_eq_true (show n - 48 < 10 by omega)]
  exact ⟨rfl, fun _ => rfl⟩
 ·rw [if_neg h1, decide_eq_false h1, decide_eq_false (show ¬ n - 87 < 10 by omega)]
  simp
theorem a47 : ∀ (l : List UInt8) (v : Nat), (∀ c ∈ l, j9 c = true) → N5 v l = pU 16 v l
 | [], _, _ => rfl
 | c :: r, v, h => by
  have hd := a6K (h c (List.mem_cons_self ..))
  rw [N5, pU]
  cases ho : v6 c.toNat with
  | false =>
   rw [if_neg (by simp), if_neg (by have := hd.1; rw [ho] at this; simpa using this.symm)]
  | true =>
   have e := hd.2 ho
   have hlt : J4 c.toNat < 16 := by have := hd.1; rw [ho] at this; simpa using this.symm
   rw [if_pos rfl, if_pos hlt, e, Nat.mul_comm 16 v]
   split
   ·rfl
   ·exact a47 r _ (fun x hx => h x (List.mem_cons_of_mem _ hx))
theorem a3K : ∀ (l : List UInt8) (v : Nat), (∀ c ∈ l, j9 c = true) → u6 4294967295 v l = pU 10 v l
 | [], _, _ => rfl
 | c :: r, v, h => by
  have hd := a6J (h c (List.mem_cons_self ..))
  rw [u6, pU]
  cases ho : s8 c with
  | false =>
   rw [if_neg (by simp), if_neg (by have := hd.1; rw [ho] at this; simpa using this.symm)]
  | true =>
   have e := hd.2 ho
   have hlt : J4 c.toNat < 10 := by have := hd.1; rw [ho] at this; simpa using this.symm
   rw [if_pos rfl, if_pos hlt, e, Nat.mul_comm 10 v]
   split
   ·rfl
   ·exact a3K r _ (fun x hx => h x (List.mem_cons_of_mem _ hx))
def X8 (b : Nat) (l : List UInt8) : Option Nat := if l = [] then none else pU b 0 l
theorem a8g {s : List UInt8} (h : Lib.hasPrefix s [48, 120] = true) (hw : ∀ c ∈ s, j9 c = true) : E1 s = X8 16 (s.drop 2) := by
 have hp := List.isPrefixOf_iff_prefix.1 (show List.isPrefixOf [48, 120] s = true from h)
 obtain ⟨r, rfl⟩ := hp
 show E1 (48 :: 120 :: r) = X8 16 r
 cases r with
 | nil => decide
 | cons c r =>
  unfold E1 X8
  rw [if_pos ⟨by simp, rfl, rfl⟩, if_neg (by simp)]
  exact a47 _ _ (fun x hx => hw x (List.mem_cons_of_mem _ (List.mem_cons_of_mem _ hx)))
theorem a8f {s : List UInt8} (h : Lib.hasPrefix s [48, 120] = false) (hw : ∀ c ∈ s, j9 c = true) (hne : s ≠ []) : E1 s = if s.head? = some 48 ∧ s ≠ [48] then none else X8 10 s := by
 have h1 : E1 s = k9 4294967295 s := by
  unfold E1
  rw [if_neg]
  rintro ⟨h2, h3, h4⟩
  match s, h2, h3, h4 with
  | a :: b :: r, _, h3, h4 =>
   simp at h3 h4
   subst h3 h4
   exact absurd h (by show ¬ List.isPrefixOf [48, 120] (48 :: 120 :: r) = false; simp [List.isPrefixOf])
 rw [h1, k9, X8, if_neg hne, a3K s 0 hw]
 match s, hne with
 | [c], _ =>
  by_cases hc : c = 48
  ·subst hc; simp
  ·simp [hc]
 | a :: b :: r, _ =>
  by_cases ha : a = 48
  ·subst ha; simp
  ·simp [ha]
def a5K (r : Option Nat) (e : Ending) : Prop := ∃ (n : Int) (er : Value), e = .returned (.tuple #[.int .u64 n, er]) ∧ ((r = none ∧ ∃ ty v, er = .iface ty v) ∨ (∃ m : Nat, r = some m ∧ n = (m : Int) ∧ er = .nilIface))
theorem a7o (b : Nat) (hb : b = 10 ∨ b = 16) (t : ByteArray) (hmax : t.size ≤ 140737488355328) (ht : ∀ c ∈ sl t, j9 c = true) (w : World) :
  Calls Tryz.prog 72 #[.string t, .int .i64 (b : Int), .int .i64 32] w fun e w' => a1y (X8 b (sl t)) e ∧ w.grownBy w' none := by
 by_cases hz : t.size = 0
 ·have h0 : t = ⟨#[]⟩ := by
   have : sl t = [] := List.length_eq_zero_iff.1 (by rw [j0]; exact hz)
   exact Value.string.inj (by rw [K0, this])
  subst h0
  refine (a7l b w).mono ?_
  rintro e w' ⟨h, rfl⟩
  exact ⟨h, World.grownBy.refl _ _⟩
 ·have hne : sl t ≠ [] := fun h => hz (by rw [← j0, h]; rfl)
  rw [X8, if_neg hne]
  rcases hb with rfl | rfl
  ·exact a7m t hz hmax ht w
  ·exact a7n t hz hmax ht w
theorem a4S (b : Nat) (hb : b = 10 ∨ b = 16) (t : ByteArray) (hmax : t.size ≤ 140737488355328) (ht : ∀ c ∈ sl t, j9 c = true) (w : World) (T : Tab w) :
  Calls Tryz.prog 63 #[.string t, .int .i64 (b : Int), .int .i64 32] w fun e w' => a5K (X8 b (sl t)) e ∧ w.grownBy w' none := by
 have C := a7o b hb t hmax ht w
 have HT : Hid (Tab w) := T
 generalize X8 b (sl t) = r at *
 clear ht hb T
 go_enter Tryz.func63, Tryz.ntmps63
 go_wp2_with fail
 refine C.mono ?_
 rintro e w1 ⟨⟨n, er, rfl, h⟩, K1⟩
 clear C
 rcases h with ⟨rfl, hr⟩ | ⟨m, rfl, rfl, rfl⟩
 ·obtain ⟨-, ⟨t1, v1, h1⟩, t2, v2, h2⟩ := HT.out.grown K1
  rcases hr with rfl | rfl
  ·have C2 := Tryz.strconv_toError_range ⟨#[80, 97, 114, 115, 101, 85, 105, 110, 116]⟩ t (b : Int) 32 _ w1 (by omega) h2 (.inr ⟨_, _, rfl⟩)
   clear h1 h2 HT
   go_wp2_with fail
   refine C2.mono ?_
   rintro e w2 ⟨N, rfl, -, -, B2⟩
   clear C2
   go_wp2
   go_ret2
   exact ⟨⟨_, _, rfl, .inl ⟨rfl, _, _, rfl⟩⟩, d5 K1 (a3E B2)⟩
  ·have C2 := Tryz.strconv_toError_syntax ⟨#[80, 97, 114, 115, 101, 85, 105, 110, 116]⟩ t (b : Int) 32 _ w1 (by omega) h1 (.inr ⟨_, _, rfl⟩)
   clear h1 h2 HT
   go_wp2_with fail
   refine C2.mono ?_
   rintro e w2 ⟨N, rfl, -, -, B2⟩
   clear C2
   go_wp2
   go_ret2
   exact ⟨⟨_, _, rfl, .inl ⟨rfl, _, _, rfl⟩⟩, d5 K1 (a3E B2)⟩
 ·clear HT
  go_wp2
  go_ret2
  exact ⟨⟨_, _, rfl, .inr ⟨m, rfl, rfl, rfl⟩⟩, K1⟩
def nmV (s : List UInt8) : Except Int (Nat × List UInt8 × Nat) := match E1 s with
 | none => .error 102
 | some n => .ok (1, s, n)
theorem a8h (s : ByteArray) (hmax : s.size ≤ 140737488355328) (hne : 0 < s.size) (hw : ∀ c ∈ sl s, j9 c = true) (w : World) (T : Tab w) :
  Calls Tryz.prog 49 #[.string s] w fun e w' => e = .returned (.tuple #[.agg (Y2 0 (nmV (sl s))), .int .i64 (Y3 (nmV (sl s)))]) ∧ w.grownBy w' none := by
 have RA := VAt.alloc w 42 (tkA 0 0 [] 0)
 have G0 := World.grownBy_alloc w (.cells (tkA 0 0 [] 0) 42) none
 have C1 := Tryz.strings_CutPrefix s ⟨#[48, 120]⟩
 rw [show (⟨#[48, 120]⟩ : ByteArray).data.toList = [48, 120] from rfl] at C1
 have hne' : sl s ≠ [] := fun h => by rw [← j0, h] at hne; exact absurd hne (by decide)
 have hsl : s.data.toList = sl s := rfl
 rw [hsl] at C1
 cases hp : Lib.hasPrefix (sl s) [48, 120] with
 | true =>
  rw [hp, Lib.trimPrefix, if_pos hp] at C1
  have hn := a8g hp hw
  have hd : (sl s).drop ([48, 120] : List UInt8).length = (sl s).drop 2 := rfl
  rw [hd] at C1
  obtain ⟨D, hD⟩ : ∃ D : ByteArray, ⟨((sl s).drop 2).toArray⟩ = D := ⟨_, rfl⟩
  have hDl : sl D = (sl s).drop 2 := by rw [← hD]; rfl
  rw [hD] at C1
  have hDs : D.size ≤ 140737488355328 := by rw [← j0, hDl, List.length_drop, j0]; omega
  have CP := a4S 16 (.inr rfl) D hDs (fun c hc => hw c (List.mem_of_mem_drop (by rw [← hDl]; exact hc)))
  rw [hDl, ← hn] at CP
  have HCP : Hid _ := CP
  have HT : Hid (Tab w) := T
  clear hD hDl hDs hn hd hp hsl hne' hw T CP
  go_enter Tryz.func49, Tryz.ntmps49
  go_upto_region 1 with fail
  rw [show (w.alloc (.cells #[.int .i64 0, .int .i64 0, .string ⟨#[]⟩, .int .u32 0] 42)) = w.alloc (.cells (tkA 0 0 [] 0) 42) from rfl]
  generalize w.alloc (.cells (tkA 0 0 [] 0) 42) = w1 at *
  obtain ⟨R, hR⟩ : ∃ R, w.heap.size = R := ⟨_, rfl⟩
  have HR : Hid (w.heap.size ≤ R) := by show w.heap.size ≤ R; omega
  rw [hR] at RA ⊢
  clear hR
  go_wp2_with fail
  refine (C1 _).mono ?_
  rintro e w2 ⟨rfl, rfl⟩
  clear C1
  have CP := HCP.out _ (HT.out.grown G0)
  clear HCP
  go_wp2_with fail
  refine CP.mono ?_
  rintro e w3 ⟨⟨n, er, rfl, h⟩, K3⟩
  have RA3 := RA.kept K3
  have G3 := d5 G0 K3
  clear CP RA G0 K3
  rcases h with ⟨hr, ty, v, rfl⟩ | ⟨m, hr, rfl, rfl⟩
  ·have HX : Hid (nmV (sl s) = .error 102) := by show nmV _ = _; rw [nmV, hr]
   clear hr
   go_wp2_with (refine wpList_store_row rfl 42 (.tmp 2) (.tmp 34) rfl R (tkA 0 0 [] 0) rfl rfl 42 _ RA3 p5 rfl (by simp [tkA, Value.oneCell']) ?_)
   refine bodyPost_ret (l8 rfl _ _ R (tkA 0 0 [] 0) _ rfl (RA3.setRow _) Tryz.underlying42 rfl p5) rfl ?_
   exact ⟨by rw [HX.out]; rfl, j7 G3 _ _ (.inr HR.out)⟩
  ·have HX : Hid (nmV (sl s) = .ok (1, sl s, m)) := by show nmV _ = _; rw [nmV, hr]
   have hm := a1q hr
   have hwm : IntKind.u32.wrap (m : Int) = (m : Int) := by rw [IntKind.wrap_u32]; omega
   clear hr
   go_wp2_with (refine wpList_store_row rfl 42 (.tmp 2) (.tmp 38) rfl R (tkA 1 0 (sl s) m) rfl rfl 42 _ RA3 p5 rfl (by simp [tkA, Value.oneCell']) ?_)
   refine bodyPost_ret (l8 rfl _ _ R (tkA 1 0 (sl s) m) _ rfl (RA3.setRow _) Tryz.underlying42 rfl p5) rfl ?_
   exact ⟨by rw [HX.out]; rfl, j7 G3 _ _ (.inr HR.out)⟩
 | false =>
  rw [hp, Lib.trimPrefix, if_neg (by rw [hp]; simp)] at C1
  rw [show (⟨(sl s).toArray⟩ : ByteArray) = s from by cases s; simp [sl]] at C1
  have hn := a8f hp hw hne'
  have h0 : (sl s).head? = some s[0] := by
   have := D8 s 0 hne
   rw [List.drop_zero] at this
   rw [this]
   rfl
  have CP := a4S 10 (.inl rfl) s hmax hw
  have HT : Hid (Tab w) := T
  have hzz : (s.toList == [48]) = decide (sl s = [48]) := by
   rw [ByteArray.toList_eq]
   show (sl s == [48]) = _
   by_cases h : sl s = [48]
   ·rw [decide_eq_true h, h]; rfl
   ·rw [decide_eq_false h, beq_eq_false_iff_ne]; exact h
  have hni : (0 : Int) < (s.size : Int) := by omega
  by_cases hc : s[0] = 48 ∧ sl s ≠ [48]
  ·rw [if_pos ⟨by rw [h0, hc.1], hc.2⟩] at hn
   have HX : Hid (nmV (sl s) = .error 102) := by show nmV _ = _; rw [nmV, hn]
   have c0 : s[0].toNat = 48 := by rw [hc.1]; rfl
   have hz : (s.toList == [48]) = false := by rw [hzz, decide_eq_false hc.2]
   clear hn h0 hc hzz hp hsl hne' hw T CP HT
   go_enter Tryz.func49, Tryz.ntmps49
   go_upto_region 1 with fail
   rw [show (w.alloc (.cells #[.int .i64 0, .int .i64 0, .string ⟨#[]⟩, .int .u32 0] 42)) = w.alloc (.cells (tkA 0 0 [] 0) 42) from rfl]
   generalize w.alloc (.cells (tkA 0 0 [] 0) 42) = w1 at *
   obtain ⟨R, hR⟩ : ∃ R, w.heap.size = R := ⟨_, rfl⟩
   have HR : Hid (w.heap.size ≤ R) := by show w.heap.size ≤ R; omega
   rw [hR] at RA ⊢
   clear hR
   go_wp2_with fail
   refine (C1 _).mono ?_
   rintro e w2 ⟨rfl, rfl⟩
   clear C1
   go_wp2_with (refine wpList_store_row rfl 42 (.tmp 2) (.tmp 25) rfl R (tkA 0 0 [] 0) rfl rfl 42 _ RA p5 rfl (by simp [tkA, Value.oneCell']) ?_)
   refine bodyPost_ret (l8 rfl _ _ R (tkA 0 0 [] 0) _ rfl (RA.setRow _) Tryz.underlying42 rfl p5) rfl ?_
   exact ⟨by rw [HX.out]; rfl, j7 G0 _ _ (.inr HR.out)⟩
  ·have hn2 : E1 (sl s) = X8 10 (sl s) := by
    rw [hn, if_neg]
    rintro ⟨h1, h2⟩
    rw [h0] at h1
    exact hc ⟨Option.some.inj h1, h2⟩
   rw [← hn2] at CP
   have HCP : Hid _ := CP
   by_cases h48 : s[0] = 48
   ·have hs48 : sl s = [48] := Decidable.byContradiction fun h => hc ⟨h48, h⟩
    have c0 : s[0].toNat = 48 := by rw [h48]; rfl
    have hz : (s.toList == [48]) = true := by rw [hzz, decide_eq_true hs48]
    clear hn hn2 h0 hc hzz hp hsl hne' hw T CP h48 hs48
    go_enter Tryz.func49, Tryz.ntmps49
    go_upto_region 1 with fail
    rw [show (w.alloc (.cells #[.int .i64 0, .int .i64 0, .string ⟨#[]⟩, .int .u32 0] 42)) = w.alloc (.cells (tkA 0 0 [] 0) 42) from rfl]
    generalize w.alloc (.cells (tkA 0 0 [] 0) 42) = w1 at *
    obtain ⟨R, hR⟩ : ∃ R, w.heap.size = R := ⟨_, rfl⟩
    have HR : Hid (w.heap.size ≤ R) := by show w.heap.size ≤ R; omega
    rw [hR] at RA ⊢
    clear hR
    go_wp2_with fail
    refine (C1 _).mono ?_
    rintro e w2 ⟨rfl, rfl⟩
    clear C1
    have CP := HCP.out _ (HT.out.grown G0)
    clear HCP
    go_wp2_with fail
    refine CP.mono ?_
    rintro e w3 ⟨⟨n, er, rfl, h⟩, K3⟩
    have RA3 := RA.kept K3
    have G3 := d5 G0 K3
    clear CP RA G0 K3
    rcases h with ⟨hr, ty, v, rfl⟩ | ⟨m, hr, rfl, rfl⟩
    ·have HX : Hid (nmV (sl s) = .error 102) := by show nmV _ = _; rw [nmV, hr]
     clear hr
     go_wp2_with (refine wpList_store_row rfl 42 (.tmp 2) (.tmp 34) rfl R (tkA 0 0 [] 0) rfl rfl 42 _ RA3 p5 rfl (by simp [tkA, Value.oneCell']) ?_)
     refine bodyPost_ret (l8 rfl _ _ R (tkA 0 0 [] 0) _ rfl (RA3.setRow _) Tryz.underlying42 rfl p5) rfl ?_
     exact ⟨by rw [HX.out]; rfl, j7 G3 _ _ (.inr HR.out)⟩
    ·have HX : Hid (nmV (sl s) = .ok (1, sl s, m)) := by show nmV _ = _; rw [nmV, hr]
     have hm := a1q hr
     have hwm : IntKind.u32.wrap (m : Int) = (m : Int) := by rw [IntKind.wrap_u32]; omega
     clear hr
     go_wp2_with (refine wpList_store_row rfl 42 (.tmp 2) (.tmp 38) rfl R (tkA 1 0 (sl s) m) rfl rfl 42 _ RA3 p5 rfl (by simp [tkA, Value.oneCell']) ?_)
     refine bodyPost_ret (l8 rfl _ _ R (tkA 1 0 (sl s) m) _ rfl (RA3.setRow _) Tryz.underlying42 rfl p5) rfl ?_
     exact ⟨by rw [HX.out]; rfl, j7 G3 _ _ (.inr HR.out)⟩
   ·have c0 : ((s[0].toNat : Int) == 48) = false := by
     rw [beq_eq_false_iff_ne]
     intro e
     exact h48 (UInt8.toNat_inj.1 (by simpa using (by omega : s[0].toNat = 48)))
    clear hn hn2 h0 hc hzz hp hsl hne' hw T CP h48
    go_enter Tryz.func49, Tryz.ntmps49
    go_upto_region 1 with fail
    rw [show (w.alloc (.cells #[.int .i64 0, .int .i64 0, .string ⟨#[]⟩, .int .u32 0] 42)) = w.alloc (.cells (tkA 0 0 [] 0) 42) from rfl]
    generalize w.alloc (.cells (tkA 0 0 [] 0) 42) = w1 at *
    obtain ⟨R, hR⟩ : ∃ R, w.heap.size = R := ⟨_, rfl⟩
    have HR : Hid (w.heap.size ≤ R) := by show w.heap.size ≤ R; omega
    rw [hR] at RA ⊢
    clear hR
    go_wp2_with fail
    refine (C1 _).mono ?_
    rintro e w2 ⟨rfl, rfl⟩
    clear C1
    have CP := HCP.out _ (HT.out.grown G0)
    clear HCP
    go_wp2_with fail
    refine CP.mono ?_
    rintro e w3 ⟨⟨n, er, rfl, h⟩, K3⟩
    have RA3 := RA.kept K3
    have G3 := d5 G0 K3
    clear CP RA G0 K3
    rcases h with ⟨hr, ty, v, rfl⟩ | ⟨m, hr, rfl, rfl⟩
    ·have HX : Hid (nmV (sl s) = .error 102) := by show nmV _ = _; rw [nmV, hr]
     clear hr
     go_wp2_with (refine wpList_store_row rfl 42 (.tmp 2) (.tmp 34) rfl R (tkA 0 0 [] 0) rfl rfl 42 _ RA3 p5 rfl (by simp [tkA, Value.oneCell']) ?_)
     refine bodyPost_ret (l8 rfl _ _ R (tkA 0 0 [] 0) _ rfl (RA3.setRow _) Tryz.underlying42 rfl p5) rfl ?_
     exact ⟨by rw [HX.out]; rfl, j7 G3 _ _ (.inr HR.out)⟩
    ·have HX : Hid (nmV (sl s) = .ok (1, sl s, m)) := by show nmV _ = _; rw [nmV, hr]
     have hm := a1q hr
     have hwm : IntKind.u32.wrap (m : Int) = (m : Int) := by rw [IntKind.wrap_u32]; omega
     clear hr
     go_wp2_with (refine wpList_store_row rfl 42 (.tmp 2) (.tmp 38) rfl R (tkA 1 0 (sl s) m) rfl rfl 42 _ RA3 p5 rfl (by simp [tkA, Value.oneCell']) ?_)
     refine bodyPost_ret (l8 rfl _ _ R (tkA 1 0 (sl s) m) _ rfl (RA3.setRow _) Tryz.underlying42 rfl p5) rfl ?_
     exact ⟨by rw [HX.out]; rfl, j7 G3 _ _ (.inr HR.out)⟩
theorem ah4 {s : List UInt8} (h : 2 ≤ (s.takeWhile o4).count 58) : o7 s = .ok (4, s.takeWhile o4, 0) := by rw [o7, if_pos h]
theorem ah2 {s : List UInt8} (h : ¬ 2 ≤ (s.takeWhile o4).count 58) (hd : s.head?.any s8 = true) (hq : (s.takeWhile p7).contains 46 = true) : o7 s = .ok (3, s.takeWhile p7, 0) := by
 rw [o7, if_neg h, if_pos hd, if_pos (by simpa using hq)]
theorem ah1 {s : List UInt8} (h : ¬ 2 ≤ (s.takeWhile o4).count 58) (hd : s.head?.any s8 = true) (hq : (s.takeWhile p7).contains 46 = false) : o7 s = nmV (s.takeWhile j9) := by
 rw [o7, if_neg h, if_pos hd, if_neg (by simpa using hq)]
 unfold nmV
 rfl
theorem ah5 {s : List UInt8} (h : ¬ 2 ≤ (s.takeWhile o4).count 58) (hd : s.head?.any s8 = false) (hl : s.head?.any M1 = true) : o7 s = .ok (2, s.takeWhile j9, 0) := by
 rw [o7, if_neg h, if_neg (by rw [hd]; simp), if_pos hl]
theorem ah3 {s : List UInt8} (h : ¬ 2 ≤ (s.takeWhile o4).count 58) (hd : s.head?.any s8 = false) (hl : s.head?.any M1 = false) : o7 s = if t6 s = [] then .error 101 else .ok (5, t6 s, 0) := by
 rw [o7, if_neg h, if_neg (by rw [hd]; simp), if_neg (by rw [hl]; simp)]
theorem a84 (s : ByteArray) (hs : s.size ≤ 140737488355328) (hne : 0 < s.size) (w : World) (T : Tab w) :
  Calls Tryz.prog 31 #[.string s] w fun e w' => e = .returned (.tuple #[.agg (Y2 0 (o7 (sl s))), .int .i64 (Y3 (o7 (sl s)))]) ∧ w.grownBy w' none := by
 have RA := VAt.alloc w 42 (tkA 0 0 [] 0)
 have G0 := World.grownBy_alloc w (.cells (tkA 0 0 [] 0) 42) none
 have HT : Hid (Tab w) := T
 have h0 : (sl s).head? = some s[0] := by
  have := D8 s 0 hne
  rw [List.drop_zero] at this
  rw [this]
  rfl
 have hcons : sl s = s[0] :: (sl s).drop 1 := by
  have := D8 s 0 hne
  rw [List.drop_zero] at this
  exact this
 have C6 : Hid (∀ W : World, Calls Tryz.prog 47 #[.string s] W fun e w' => e = .returned (str (a0u (sl s))) ∧ W.grownBy w' none) := fun W => af7 s hs W
 have C4 : Hid (∀ W : World, Calls Tryz.prog 48 #[.string s] W fun e w' => e = .returned (str (a0r (sl s))) ∧ W.grownBy w' none) := fun W => a8X s hs W
 have CW : Hid (∀ W : World, Calls Tryz.prog 50 #[.string s] W fun e w' => e = .returned (str ((sl s).takeWhile j9)) ∧ W = w') := fun W => a7M s hs W
 have CK : Hid (∀ W : World, Calls Tryz.prog 30 #[.int .u8 (s[0].toNat : Int)] W fun e w' => e = .returned (.int .i64 (p6 s[0].toNat : Int)) ∧ W = w') := fun W => a1i _ W
 have CG : Hid (∀ W : World, Tab W → Calls Tryz.prog 51 #[.string s] W fun e w' => e = .returned (str (t6 (sl s))) ∧ W.grownBy w' none) := fun W TW => af3 s hs W TW
 have hk := Y9 s[0]
 have hni : (0 : Int) < (s.size : Int) := by omega
 clear T
 by_cases h6 : 2 ≤ ((sl s).takeWhile o4).count 58
 ·have HX : Hid _ := ah4 h6
  have e6 : a0u (sl s) = (sl s).takeWhile o4 := by rw [a0u, if_pos h6]
  rw [e6] at C6
  have hnn : ((sl s).takeWhile o4).isEmpty = false := by
   cases hh : (sl s).takeWhile o4 with
   | nil => rw [hh] at h6; exact absurd h6 (by decide)
   | cons a b => rfl
  clear h6 e6 h0 hcons C4 CW CK CG hk HT
  obtain ⟨S6, hS⟩ : ∃ S, (sl s).takeWhile o4 = S := ⟨_, rfl⟩
  rw [hS] at C6 HX hnn
  clear hS
  go_enter Tryz.func31, Tryz.ntmps31
  go_upto_region 1 with fail
  rw [show (w.alloc (.cells #[.int .i64 0, .int .i64 0, .string ⟨#[]⟩, .int .u32 0] 42)) = w.alloc (.cells (tkA 0 0 [] 0) 42) from rfl]
  generalize w.alloc (.cells (tkA 0 0 [] 0) 42) = w1 at *
  obtain ⟨R, hR⟩ : ∃ R, w.heap.size = R := ⟨_, rfl⟩
  have HR : Hid (w.heap.size ≤ R) := by show w.heap.size ≤ R; omega
  rw [hR] at RA ⊢
  clear hR
  go_wp2_with fail
  refine (C6.out _).mono ?_
  rintro e w2 ⟨rfl, K2⟩
  have RA2 := RA.kept K2
  have G2 := d5 G0 K2
  clear C6 RA G0 K2
  go_wp2_with (refine wpList_store_row rfl 42 (.tmp 2) (.tmp 12) rfl R (tkA 4 0 S6 0) rfl rfl 42 _ RA2 p5 rfl (by simp [tkA, Value.oneCell']) ?_)
  refine bodyPost_ret (l8 rfl _ _ R (tkA 4 0 S6 0) _ rfl (RA2.setRow _) Tryz.underlying42 rfl p5) rfl ?_
  exact ⟨by rw [HX.out]; rfl, j7 G2 _ _ (.inr HR.out)⟩
 ·have e6 : a0u (sl s) = [] := by rw [a0u, if_neg h6]
  rw [e6] at C6
  clear e6
  cases hd : s8 s[0] with
  | true =>
   have hd' : (sl s).head?.any s8 = true := by rw [h0]; exact hd
   have hk2 : p6 s[0].toNat = 2 := by have := hk.2.2.2.2.2.2.1; rw [hd] at this; exact of_decide_eq_true this.symm
   rw [hk2] at CK
   clear hk2 hk
   cases hq : ((sl s).takeWhile p7).contains 46 with
   | true =>
    have HX : Hid _ := ah2 h6 hd' hq
    have e4 : a0r (sl s) = (sl s).takeWhile p7 := by rw [a0r, if_pos hq]
    rw [e4] at C4
    have hnn : ((sl s).takeWhile p7).isEmpty = false := by
     cases hh : (sl s).takeWhile p7 with
     | nil => rw [hh] at hq; exact absurd hq (by decide)
     | cons a b => rfl
    clear h6 e4 h0 hcons CW CG HT hd hd' hq
    obtain ⟨S4, hS⟩ : ∃ S, (sl s).takeWhile p7 = S := ⟨_, rfl⟩
    rw [hS] at C4 HX hnn
    clear hS
    go_enter Tryz.func31, Tryz.ntmps31
    go_upto_region 1 with fail
    rw [show (w.alloc (.cells #[.int .i64 0, .int .i64 0, .string ⟨#[]⟩, .int .u32 0] 42)) = w.alloc (.cells (tkA 0 0 [] 0) 42) from rfl]
    generalize w.alloc (.cells (tkA 0 0 [] 0) 42) = w1 at *
    obtain ⟨R, hR⟩ : ∃ R, w.heap.size = R := ⟨_, rfl⟩
    have HR : Hid (w.heap.size ≤ R) := by show w.heap.size ≤ R; omega
    rw [hR] at RA ⊢
    clear hR
    go_wp2_with fail
    refine (C6.out _).mono ?_
    rintro e w2 ⟨rfl, K2⟩
    have RA2 := RA.kept K2
    have G2 := d5 G0 K2
    clear C6 RA G0 K2
    go_wp2_with fail
    refine (CK.out _).mono ?_
    rintro e w3 ⟨rfl, rfl⟩
    clear CK
    go_wp2_with fail
    refine (C4.out _).mono ?_
    rintro e w4 ⟨rfl, K4⟩
    have RA4 := RA2.kept K4
    have G4 := d5 G2 K4
    clear C4 RA2 G2 K4
    go_wp2_with (refine wpList_store_row rfl 42 (.tmp 2) (.tmp 23) rfl R (tkA 3 0 S4 0) rfl rfl 42 _ RA4 p5 rfl (by simp [tkA, Value.oneCell']) ?_)
    refine bodyPost_ret (l8 rfl _ _ R (tkA 3 0 S4 0) _ rfl (RA4.setRow _) Tryz.underlying42 rfl p5) rfl ?_
    exact ⟨by rw [HX.out]; rfl, j7 G4 _ _ (.inr HR.out)⟩
   | false =>
    have hX := ah1 h6 hd' hq
    have e4 : a0r (sl s) = [] := by rw [a0r, if_neg (by rw [hq]; simp)]
    rw [e4] at C4
    have hwd : j9 s[0] = true := by rw [j9, hd]; rfl
    have hW0 : 0 < ((sl s).takeWhile j9).length := by
     rw [hcons, List.takeWhile_cons_of_pos hwd]
     simp
    have hWl : ((sl s).takeWhile j9).length ≤ 140737488355328 := by
     have := Y1 j9 (sl s)
     rw [j0] at this
     omega
    have hWw : ∀ c ∈ (sl s).takeWhile j9, j9 c = true := fun c hc => a0Z j9 _ hc
    clear h6 e4 h0 hcons CG hd hd' hq hwd
    obtain ⟨SW, hS⟩ : ∃ S, (sl s).takeWhile j9 = S := ⟨_, rfl⟩
    rw [hS] at CW hX hW0 hWl hWw
    clear hS
    have CN : Hid (∀ W : World, Tab W → Calls Tryz.prog 49 #[str SW] W fun e w' => e = .returned (.tuple #[.agg (Y2 0 (nmV SW)), .int .i64 (Y3 (nmV SW))]) ∧ W.grownBy w' none) := fun W TW => by
     have hz : (⟨SW.toArray⟩ : ByteArray).size = SW.length := by rw [← j0, J3]
     exact a8h ⟨SW.toArray⟩ (by rw [hz]; exact hWl) (by rw [hz]; exact hW0) (by rw [J3]; exact hWw) W TW
    clear hW0 hWl hWw
    cases hm : nmV SW with
    | error er =>
     rw [hm] at CN hX
     simp only [Y2, Y3] at CN
     have HX : Hid _ := hX
     clear hm hX
     go_enter Tryz.func31, Tryz.ntmps31
     go_upto_region 1 with fail
     rw [show (w.alloc (.cells #[.int .i64 0, .int .i64 0, .string ⟨#[]⟩, .int .u32 0] 42)) = w.alloc (.cells (tkA 0 0 [] 0) 42) from rfl]
     generalize w.alloc (.cells (tkA 0 0 [] 0) 42) = w1 at *
     obtain ⟨R, hR⟩ : ∃ R, w.heap.size = R := ⟨_, rfl⟩
     have HR : Hid (w.heap.size ≤ R) := by show w.heap.size ≤ R; omega
     rw [hR] at RA ⊢
     clear hR
     go_wp2_with fail
     refine (C6.out _).mono ?_
     rintro e w2 ⟨rfl, K2⟩
     have RA2 := RA.kept K2
     have G2 := d5 G0 K2
     clear C6 RA G0 K2
     go_wp2_with fail
     refine (CK.out _).mono ?_
     rintro e w3 ⟨rfl, rfl⟩
     clear CK
     go_wp2_with fail
     refine (C4.out _).mono ?_
     rintro e w4 ⟨rfl, K4⟩
     have RA4 := RA2.kept K4
     have G4 := d5 G2 K4
     clear C4 RA2 G2 K4
     go_wp2_with fail
     refine (CW.out _).mono ?_
     rintro e w5 ⟨rfl, rfl⟩
     clear CW
     have CN5 := CN.out _ (HT.out.grown G4)
     clear CN HT
     go_wp2_with fail
     refine CN5.mono ?_
     rintro e w6 ⟨rfl, K6⟩
     have RA6 := RA4.kept K6
     have G6 := d5 G4 K6
     clear CN5 RA4 G4 K6
     go_wp2_with (refine wpList_store_row rfl 42 (.tmp 2) (.tmp 27) rfl R (tkA 0 0 [] 0) rfl rfl 42 _ RA6 p5 rfl (by simp [tkA, Value.oneCell']) ?_)
     refine bodyPost_ret (l8 rfl _ _ R (tkA 0 0 [] 0) _ rfl (RA6.setRow _) Tryz.underlying42 rfl p5) rfl ?_
     exact ⟨by rw [HX.out]; rfl, j7 G6 _ _ (.inr HR.out)⟩
    | ok y =>
     obtain ⟨q, t, n⟩ := y
     rw [hm] at CN hX
     simp only [Y2, Y3] at CN
     have HX : Hid _ := hX
     clear hm hX
     go_enter Tryz.func31, Tryz.ntmps31
     go_upto_region 1 with fail
     rw [show (w.alloc (.cells #[.int .i64 0, .int .i64 0, .string ⟨#[]⟩, .int .u32 0] 42)) = w.alloc (.cells (tkA 0 0 [] 0) 42) from rfl]
     generalize w.alloc (.cells (tkA 0 0 [] 0) 42) = w1 at *
     obtain ⟨R, hR⟩ : ∃ R, w.heap.size = R := ⟨_, rfl⟩
     have HR : Hid (w.heap.size ≤ R) := by show w.heap.size ≤ R; omega
     rw [hR] at RA ⊢
     clear hR
     go_wp2_with fail
     refine (C6.out _).mono ?_
     rintro e w2 ⟨rfl, K2⟩
     have RA2 := RA.kept K2
     have G2 := d5 G0 K2
     clear C6 RA G0 K2
     go_wp2_with fail
     refine (CK.out _).mono ?_
     rintro e w3 ⟨rfl, rfl⟩
     clear CK
     go_wp2_with fail
     refine (C4.out _).mono ?_
     rintro e w4 ⟨rfl, K4⟩
     have RA4 := RA2.kept K4
     have G4 := d5 G2 K4
     clear C4 RA2 G2 K4
     go_wp2_with fail
     refine (CW.out _).mono ?_
     rintro e w5 ⟨rfl, rfl⟩
     clear CW
     have CN5 := CN.out _ (HT.out.grown G4)
     clear CN HT
     go_wp2_with fail
     refine CN5.mono ?_
     rintro e w6 ⟨rfl, K6⟩
     have RA6 := RA4.kept K6
     have G6 := d5 G4 K6
     clear CN5 RA4 G4 K6
     go_wp2_with (refine wpList_store_row rfl 42 (.tmp 2) (.tmp 27) rfl R (tkA q 0 t n) rfl rfl 42 _ RA6 p5 rfl (by simp [tkA, Value.oneCell']) ?_)
     refine bodyPost_ret (l8 rfl _ _ R (tkA q 0 t n) _ rfl (RA6.setRow _) Tryz.underlying42 rfl p5) rfl ?_
     exact ⟨by rw [HX.out]; rfl, j7 G6 _ _ (.inr HR.out)⟩
  | false =>
   have hd' : (sl s).head?.any s8 = false := by rw [h0]; exact hd
   cases hl : M1 s[0] with
   | true =>
    have hl' : (sl s).head?.any M1 = true := by rw [h0]; exact hl
    have HX : Hid _ := ah5 h6 hd' hl'
    have hk3 : p6 s[0].toNat = 3 ∨ p6 s[0].toNat = 4 := by have := hk.2.2.2.2.2.2.2; rw [hl] at this; exact of_decide_eq_true this.symm
    clear h6 h0 hcons C4 CG hk HT hd hd' hl hl'
    obtain ⟨SW, hS⟩ : ∃ S, (sl s).takeWhile j9 = S := ⟨_, rfl⟩
    rw [hS] at CW HX
    clear hS
    rcases hk3 with hk3 | hk3
    all_goals
     rw [hk3] at CK
     clear hk3
     go_enter Tryz.func31, Tryz.ntmps31
     go_upto_region 1 with fail
     rw [show (w.alloc (.cells #[.int .i64 0, .int .i64 0, .string ⟨#[]⟩, .int .u32 0] 42)) = w.alloc (.cells (tkA 0 0 [] 0) 42) from rfl]
     generalize w.alloc (.cells (tkA 0 0 [] 0) 42) = w1 at *
     obtain ⟨R, hR⟩ : ∃ R, w.heap.size = R := ⟨_, rfl⟩
     have HR : Hid (w.heap.size ≤ R) := by show w.heap.size ≤ R; omega
     rw [hR] at RA ⊢
     clear hR
     go_wp2_with fail
     refine (C6.out _).mono ?_
     rintro e w2 ⟨rfl, K2⟩
     have RA2 := RA.kept K2
     have G2 := d5 G0 K2
     clear C6 RA G0 K2
     go_wp2_with fail
     refine (CK.out _).mono ?_
     rintro e w3 ⟨rfl, rfl⟩
     clear CK
     go_wp2_with fail
     refine (CW.out _).mono ?_
     rintro e w5 ⟨rfl, rfl⟩
     clear CW
     go_wp2_with (refine wpList_store_row rfl 42 (.tmp 2) (.tmp 34) rfl R (tkA 2 0 SW 0) rfl rfl 42 _ RA2 p5 rfl (by simp [tkA, Value.oneCell']) ?_)
     refine bodyPost_ret (l8 rfl _ _ R (tkA 2 0 SW 0) _ rfl (RA2.setRow _) Tryz.underlying42 rfl p5) rfl ?_
     exact ⟨by rw [HX.out]; rfl, j7 G2 _ _ (.inr HR.out)⟩
   | false =>
    have hl' : (sl s).head?.any M1 = false := by rw [h0]; exact hl
    have hX := ah3 h6 hd' hl'
    have hk2 : p6 s[0].toNat ≠ 2 := by have := hk.2.2.2.2.2.2.1; rw [hd] at this; exact of_decide_eq_false this.symm
    have hk3 : ¬ (p6 s[0].toNat = 3 ∨ p6 s[0].toNat = 4) := by have := hk.2.2.2.2.2.2.2; rw [hl] at this; exact of_decide_eq_false this.symm
    clear h6 h0 hcons C4 CW hk hd hd' hl hl'
    obtain ⟨SG, hS⟩ : ∃ S, t6 (sl s) = S := ⟨_, rfl⟩
    rw [hS] at CG hX
    clear hS
    generalize p6 s[0].toNat = kk at *
    have k2 : ((kk : Int) == 2) = false := by rw [beq_eq_false_iff_ne]; omega
    have k3 : ((kk : Int) == 3) = false := by rw [beq_eq_false_iff_ne]; omega
    have k4 : ((kk : Int) == 4) = false := by rw [beq_eq_false_iff_ne]; omega
    clear hk2 hk3
    by_cases hg : SG = []
    ·subst hg
     rw [if_pos rfl] at hX
     have HX : Hid _ := hX
     clear hX
     go_enter Tryz.func31, Tryz.ntmps31
     go_upto_region 1 with fail
     rw [show (w.alloc (.cells #[.int .i64 0, .int .i64 0, .string ⟨#[]⟩, .int .u32 0] 42)) = w.alloc (.cells (tkA 0 0 [] 0) 42) from rfl]
     generalize w.alloc (.cells (tkA 0 0 [] 0) 42) = w1 at *
     obtain ⟨R, hR⟩ : ∃ R, w.heap.size = R := ⟨_, rfl⟩
     have HR : Hid (w.heap.size ≤ R) := by show w.heap.size ≤ R; omega
     rw [hR] at RA ⊢
     clear hR
     go_wp2_with fail
     refine (C6.out _).mono ?_
     rintro e w2 ⟨rfl, K2⟩
     have RA2 := RA.kept K2
     have G2 := d5 G0 K2
     clear C6 RA G0 K2
     go_wp2_with fail
     refine (CK.out _).mono ?_
     rintro e w3 ⟨rfl, rfl⟩
     clear CK
     have CG3 := CG.out _ (HT.out.grown G2)
     clear CG HT
     go_wp2_with fail
     refine CG3.mono ?_
     rintro e w5 ⟨rfl, K5⟩
     have RA5 := RA2.kept K5
     have G5 := d5 G2 K5
     clear CG3 RA2 G2 K5
     go_wp2_with (refine wpList_store_row rfl 42 (.tmp 2) (.tmp 41) rfl R (tkA 0 0 [] 0) rfl rfl 42 _ RA5 p5 rfl (by simp [tkA, Value.oneCell']) ?_)
     refine bodyPost_ret (l8 rfl _ _ R (tkA 0 0 [] 0) _ rfl (RA5.setRow _) Tryz.underlying42 rfl p5) rfl ?_
     exact ⟨by rw [HX.out]; rfl, j7 G5 _ _ (.inr HR.out)⟩
    ·have hgf : SG.isEmpty = false := by simpa using hg
     rw [if_neg hg] at hX
     have HX : Hid _ := hX
     clear hX hg
     go_enter Tryz.func31, Tryz.ntmps31
     go_upto_region 1 with fail
     rw [show (w.alloc (.cells #[.int .i64 0, .int .i64 0, .string ⟨#[]⟩, .int .u32 0] 42)) = w.alloc (.cells (tkA 0 0 [] 0) 42) from rfl]
     generalize w.alloc (.cells (tkA 0 0 [] 0) 42) = w1 at *
     obtain ⟨R, hR⟩ : ∃ R, w.heap.size = R := ⟨_, rfl⟩
     have HR : Hid (w.heap.size ≤ R) := by show w.heap.size ≤ R; omega
     rw [hR] at RA ⊢
     clear hR
     go_wp2_with fail
     refine (C6.out _).mono ?_
     rintro e w2 ⟨rfl, K2⟩
     have RA2 := RA.kept K2
     have G2 := d5 G0 K2
     clear C6 RA G0 K2
     go_wp2_with fail
     refine (CK.out _).mono ?_
     rintro e w3 ⟨rfl, rfl⟩
     clear CK
     have CG3 := CG.out _ (HT.out.grown G2)
     clear CG HT
     go_wp2_with fail
     refine CG3.mono ?_
     rintro e w5 ⟨rfl, K5⟩
     have RA5 := RA2.kept K5
     have G5 := d5 G2 K5
     clear CG3 RA2 G2 K5
     go_wp2_with (refine wpList_store_row rfl 42 (.tmp 2) (.tmp 40) rfl R (tkA 5 0 SG 0) rfl rfl 42 _ RA5 p5 rfl (by simp [tkA, Value.oneCell']) ?_)
     refine bodyPost_ret (l8 rfl _ _ R (tkA 5 0 SG 0) _ rfl (RA5.setRow _) Tryz.underlying42 rfl p5) rfl ?_
     exact ⟨by rw [HX.out]; rfl, j7 G5 _ _ (.inr HR.out)⟩

end Go.Proofs.YtlfmddjppejmaaaGreatDoor
