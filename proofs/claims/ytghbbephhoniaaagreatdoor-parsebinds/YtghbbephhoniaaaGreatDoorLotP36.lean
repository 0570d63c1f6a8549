import Derived.Test.YtghbbephhoniaaaGreatDoorLotP35
namespace Go.Proofs.YtghbbephhoniaaaGreatDoor
open Go.RowKit
set_option maxRecDepth 100000
theorem dig16 {c : UInt8} (h : wordB c = true) : digOk c.toNat = decide (digB c.toNat < 16) ∧ (digOk c.toNat = true → digV c.toNat = digB c.toNat) := by
 have hn := word_nat h
 generalize c.toNat = n at *
 unfold digB
 by_cases h1 : n ≤ 57
 ·have := dig_dec (c := n) (by omega)
  rw [if_pos h1, this.1, decide_eq_true (by omega)]
  exact ⟨rfl, fun _ => this.2⟩
 ·rw [if_neg h1]
  by_cases h2 : n ≤ 102
  ·have := dig_let (c := n) (by omega)
   rw [this.1, decide_eq_true (by omega)]
   exact ⟨rfl, fun _ => this.2⟩
  ·have := dig_no (c := n) (by omega) (by omega)
   rw [this.1, decide_eq_false (by omega)]
   exact ⟨rfl, fun h => by cases h⟩
theorem dig10 {c : UInt8} (h : wordB c = true) : isDig c = decide (digB c.toNat < 10) ∧ (isDig c = true → c.toNat - 48 = digB c.toNat) := by
 have hn := word_nat h
 unfold isDig digB
 generalize c.toNat = n at *
 by_cases h1 : n ≤ 57
 ·rw [if_pos h1, decide_eq_true h1, decide_eq_true (show 48 ≤ n by omega), decide_eq_true (show n - 48 < 10 by omega)]
  exact ⟨rfl, fun _ => rfl⟩
 ·rw [if_neg h1, decide_eq_false h1, decide_eq_false (show ¬ n - 87 < 10 by omega)]
  simp
theorem hex_pU : ∀ (l : List UInt8) (v : Nat), (∀ c ∈ l, wordB c = true) → hexL v l = pU 16 v l
 | [], _, _ => rfl
 | c :: r, v, h => by
  have hd := dig16 (h c (List.mem_cons_self ..))
  rw [hexL, pU]
  cases ho : digOk c.toNat with
  | false =>
   rw [if_neg (by simp), if_neg (by have := hd.1; rw [ho] at this; simpa using this.symm)]
  | true =>
   have e := hd.2 ho
   have hlt : digB c.toNat < 16 := by have := hd.1; rw [ho] at this; simpa using this.symm
   rw [if_pos rfl, if_pos hlt, e, Nat.mul_comm 16 v]
   split
   ·rfl
   ·exact hex_pU r _ (fun x hx => h x (List.mem_cons_of_mem _ hx))
theorem dec_pU : ∀ (l : List UInt8) (v : Nat), (∀ c ∈ l, wordB c = true) → numFrom 4294967295 v l = pU 10 v l
 | [], _, _ => rfl
 | c :: r, v, h => by
  have hd := dig10 (h c (List.mem_cons_self ..))
  rw [numFrom, pU]
  cases ho : isDig c with
  | false =>
   rw [if_neg (by simp), if_neg (by have := hd.1; rw [ho] at this; simpa using this.symm)]
  | true =>
   have e := hd.2 ho
   have hlt : digB c.toNat < 10 := by have := hd.1; rw [ho] at this; simpa using this.symm
   rw [if_pos rfl, if_pos hlt, e, Nat.mul_comm 10 v]
   split
   ·rfl
   ·exact dec_pU r _ (fun x hx => h x (List.mem_cons_of_mem _ hx))
def numB (b : Nat) (l : List UInt8) : Option Nat := if l = [] then none else pU b 0 l
theorem num_hex {s : List UInt8} (h : Lib.hasPrefix s [48, 120] = true) (hw : ∀ c ∈ s, wordB c = true) : numV s = numB 16 (s.drop 2) := by
 have hp := List.isPrefixOf_iff_prefix.1 (show List.isPrefixOf [48, 120] s = true from h)
 obtain ⟨r, rfl⟩ := hp
 show numV (48 :: 120 :: r) = numB 16 r
 cases r with
 | nil => decide
 | cons c r =>
  unfold numV numB
  rw [if_pos ⟨by simp, rfl, rfl⟩, if_neg (by simp)]
  exact hex_pU _ _ (fun x hx => hw x (List.mem_cons_of_mem _ (List.mem_cons_of_mem _ hx)))
theorem num_dec {s : List UInt8} (h : Lib.hasPrefix s [48, 120] = false) (hw : ∀ c ∈ s, wordB c = true) (hne : s ≠ []) : numV s = if s.head? = some 48 ∧ s ≠ [48] then none else numB 10 s := by
 have h1 : numV s = numberV 4294967295 s := by
  unfold numV
  rw [if_neg]
  rintro ⟨h2, h3, h4⟩
  match s, h2, h3, h4 with
  | a :: b :: r, _, h3, h4 =>
   simp at h3 h4
   subst h3 h4
   exact absurd h (by show ¬ List.isPrefixOf [48, 120] (48 :: 120 :: r) = false; simp [List.isPrefixOf])
 rw [h1, numberV, numB, if_neg hne, dec_pU s 0 hw]
 match s, hne with
 | [c], _ =>
  by_cases hc : c = 48
  ·subst hc; simp
  ·simp [hc]
 | a :: b :: r, _ =>
  by_cases ha : a = 48
  ·subst ha; simp
  ·simp [ha]
def NumQ (r : Option Nat) (e : Ending) : Prop := ∃ (n : Int) (er : Value), e = .returned (.tuple #[.int .u64 n, er]) ∧ ((r = none ∧ ∃ ty v, er = .iface ty v) ∨ (∃ m : Nat, r = some m ∧ n = (m : Int) ∧ er = .nilIface))
theorem iparse_any (b : Nat) (hb : b = 10 ∨ b = 16) (t : ByteArray) (hmax : t.size ≤ 140737488355328) (ht : ∀ c ∈ sl t, wordB c = true) (w : World) :
  Calls Tryz.prog 63 #[.string t, .int .i64 (b : Int), .int .i64 32] w fun e w' => NumP (numB b (sl t)) e ∧ w.grownBy w' none := by
 by_cases hz : t.size = 0
 ·have h0 : t = ⟨#[]⟩ := by
   have : sl t = [] := List.length_eq_zero_iff.1 (by rw [sl_len]; exact hz)
   exact Value.string.inj (by rw [str_sl, this])
  subst h0
  refine (iparse0_any b w).mono ?_
  rintro e w' ⟨h, rfl⟩
  exact ⟨h, World.grownBy.refl _ _⟩
 ·have hne : sl t ≠ [] := fun h => hz (by rw [← sl_len, h]; rfl)
  rw [numB, if_neg hne]
  rcases hb with rfl | rfl
  ·exact iparse10_any t hz hmax ht w
  ·exact iparse16_any t hz hmax ht w
set_option maxHeartbeats 2000000 in
theorem parse_any (b : Nat) (hb : b = 10 ∨ b = 16) (t : ByteArray) (hmax : t.size ≤ 140737488355328) (ht : ∀ c ∈ sl t, wordB c = true) (w : World) (T : Tab w) :
  Calls Tryz.prog 52 #[.string t, .int .i64 (b : Int), .int .i64 32] w fun e w' => NumQ (numB b (sl t)) e ∧ w.grownBy w' none := by
 have C := iparse_any b hb t hmax ht w
 have HT : Hid (Tab w) := T
 generalize numB b (sl t) = r at *
 clear ht hb T
 go_enter Tryz.func52, Tryz.ntmps52
 go_wp2_with fail
 refine C.mono ?_
 rintro e w1 ⟨⟨n, er, rfl, h⟩, K1⟩
 clear C
 rcases h with ⟨rfl, hr⟩ | ⟨m, rfl, rfl, rfl⟩
 ·obtain ⟨-, ⟨t1, v1, h1⟩, t2, v2, h2⟩ := HT.out.grown K1
  rcases hr with rfl | rfl
  ·have C2 := Tryz.strconv_toError_range ⟨#[80, 97, 114, 115, 101, 85, 105, 110, 116]⟩ t (b : Int) 32 _ w1 (by omega) h2 (.inr ⟨_, _, rfl⟩)
   clear h1 h2 HT
   go_wp2_with fail
   refine C2.mono ?_
   rintro e w2 ⟨N, rfl, -, -, B2⟩
   clear C2
   go_wp2
   go_ret2
   exact ⟨⟨_, _, rfl, .inl ⟨rfl, _, _, rfl⟩⟩, grown_trans K1 (below_grown B2)⟩
  ·have C2 := Tryz.strconv_toError_syntax ⟨#[80, 97, 114, 115, 101, 85, 105, 110, 116]⟩ t (b : Int) 32 _ w1 (by omega) h1 (.inr ⟨_, _, rfl⟩)
   clear h1 h2 HT
   go_wp2_with fail
   refine C2.mono ?_
   rintro e w2 ⟨N, rfl, -, -, B2⟩
   clear C2
   go_wp2
   go_ret2
   exact ⟨⟨_, _, rfl, .inl ⟨rfl, _, _, rfl⟩⟩, grown_trans K1 (below_grown B2)⟩
 ·clear HT
  go_wp2
  go_ret2
  exact ⟨⟨_, _, rfl, .inr ⟨m, rfl, rfl, rfl⟩⟩, K1⟩
def nmV (s : List UInt8) : Except Int (Nat × List UInt8 × Nat) := match numV s with
 | none => .error 102
 | some n => .ok (1, s, n)
set_option maxRecDepth 100000 in
set_option maxHeartbeats 4000000 in
theorem number_any (s : ByteArray) (hmax : s.size ≤ 140737488355328) (hne : 0 < s.size) (hw : ∀ c ∈ sl s, wordB c = true) (w : World) (T : Tab w) :
  Calls Tryz.prog 38 #[.string s] w fun e w' => e = .returned (.tuple #[.agg (tokA 0 (nmV (sl s))), .int .i64 (tokE (nmV (sl s)))]) ∧ w.grownBy w' none := by
 have RA := VAt.alloc w 63 (tkA 0 0 [] 0)
 have G0 := World.grownBy_alloc w (.cells (tkA 0 0 [] 0) 63) none
 have C1 := Tryz.strings_CutPrefix s ⟨#[48, 120]⟩
 rw [show (⟨#[48, 120]⟩ : ByteArray).data.toList = [48, 120] from rfl] at C1
 have hne' : sl s ≠ [] := fun h => by rw [← sl_len, h] at hne; exact absurd hne (by decide)
 have hsl : s.data.toList = sl s := rfl
 rw [hsl] at C1
 cases hp : Lib.hasPrefix (sl s) [48, 120] with
 | true =>
  rw [hp, Lib.trimPrefix, if_pos hp] at C1
  have hn := num_hex hp hw
  have hd : (sl s).drop ([48, 120] : List UInt8).length = (sl s).drop 2 := rfl
  rw [hd] at C1
  obtain ⟨D, hD⟩ : ∃ D : ByteArray, ⟨((sl s).drop 2).toArray⟩ = D := ⟨_, rfl⟩
  have hDl : sl D = (sl s).drop 2 := by rw [← hD]; rfl
  rw [hD] at C1
  have hDs : D.size ≤ 140737488355328 := by rw [← sl_len, hDl, List.length_drop, sl_len]; omega
  have CP := parse_any 16 (.inr rfl) D hDs (fun c hc => hw c (List.mem_of_mem_drop (by rw [← hDl]; exact hc)))
  rw [hDl, ← hn] at CP
  have HCP : Hid _ := CP
  have HT : Hid (Tab w) := T
  clear hD hDl hDs hn hd hp hsl hne' hw T CP
  go_enter Tryz.func38, Tryz.ntmps38
  go_upto_region 1 with fail
  rw [show (w.alloc (.cells #[.int .i64 0, .int .i64 0, .string ⟨#[]⟩, .int .u32 0] 63)) = w.alloc (.cells (tkA 0 0 [] 0) 63) from rfl]
  generalize w.alloc (.cells (tkA 0 0 [] 0) 63) = w1 at *
  obtain ⟨R, hR⟩ : ∃ R, w.heap.size = R := ⟨_, rfl⟩
  have HR : Hid (w.heap.size ≤ R) := by show w.heap.size ≤ R; omega
  rw [hR] at RA ⊢
  clear hR
  go_wp2_with fail
  refine (C1 _).mono ?_
  rintro e w2 ⟨rfl, rfl⟩
  clear C1
  have CP := HCP.out _ (HT.out.grown G0)
  clear HCP
  go_wp2_with fail
  refine CP.mono ?_
  rintro e w3 ⟨⟨n, er, rfl, h⟩, K3⟩
  have RA3 := RA.kept K3
  have G3 := grown_trans G0 K3
  clear CP RA G0 K3
  rcases h with ⟨hr, ty, v, rfl⟩ | ⟨m, hr, rfl, rfl⟩
  ·have HX : Hid (nmV (sl s) = .error 102) := by show nmV _ = _; rw [nmV, hr]
   clear hr
   go_wp2_with (refine wpList_store_row rfl 63 (.tmp 2) (.tmp 34) rfl R (tkA 0 0 [] 0) rfl rfl 63 _ RA3 size63 rfl (by simp [tkA, Value.oneCell']) ?_)
   refine bodyPost_ret (ret_row rfl _ _ R (tkA 0 0 [] 0) _ rfl (RA3.setRow _) Tryz.underlying63 rfl size63) rfl ?_
   exact ⟨by rw [HX.out]; rfl, vgrown_setRow G3 _ _ (.inr HR.out)⟩
  ·have HX : Hid (nmV (sl s) = .ok (1, sl s, m)) := by show nmV _ = _; rw [nmV, hr]
   have hm := numV_le hr
   have hwm : IntKind.u32.wrap (m : Int) = (m : Int) := by rw [IntKind.wrap_u32]; omega
   clear hr
   go_wp2_with (refine wpList_store_row rfl 63 (.tmp 2) (.tmp 38) rfl R (tkA 1 0 (sl s) m) rfl rfl 63 _ RA3 size63 rfl (by simp [tkA, Value.oneCell']) ?_)
   refine bodyPost_ret (ret_row rfl _ _ R (tkA 1 0 (sl s) m) _ rfl (RA3.setRow _) Tryz.underlying63 rfl size63) rfl ?_
   exact ⟨by rw [HX.out]; rfl, vgrown_setRow G3 _ _ (.inr HR.out)⟩
 | false =>
  rw [hp, Lib.trimPrefix, if_neg (by rw [hp]; simp)] at C1
  rw [show (⟨(sl s).toArray⟩ : ByteArray) = s from by cases s; simp [sl]] at C1
  have hn := num_dec hp hw hne'
  have h0 : (sl s).head? = some s[0] := by
   have := sl_drop s 0 hne
   rw [List.drop_zero] at this
   rw [this]
   rfl
  have CP := parse_any 10 (.inl rfl) s hmax hw
  have HT : Hid (Tab w) := T
  have hzz : (s.toList == [48]) = decide (sl s = [48]) := by
   rw [ByteArray.toList_eq]
   show (sl s == [48]) = _
   by_cases h : sl s = [48]
   ·rw [decide_eq_true h, h]; rfl
   ·rw [decide_eq_false h, beq_eq_false_iff_ne]; exact h
  have hni : (0 : Int) < (s.size : Int) := by omega
  by_cases hc : s[0] = 48 ∧ sl s ≠ [48]
  ·rw [if_pos ⟨by rw [h0, hc.1], hc.2⟩] at hn
   have HX : Hid (nmV (sl s) = .error 102) := by show nmV _ = _; rw [nmV, hn]
   have c0 : s[0].toNat = 48 := by rw [hc.1]; rfl
   have hz : (s.toList == [48]) = false := by rw [hzz, decide_eq_false hc.2]
   clear hn h0 hc hzz hp hsl hne' hw T CP HT
   go_enter Tryz.func38, Tryz.ntmps38
   go_upto_region 1 with fail
   rw [show (w.alloc (.cells #[.int .i64 0, .int .i64 0, .string ⟨#[]⟩, .int .u32 0] 63)) = w.alloc (.cells (tkA 0 0 [] 0) 63) from rfl]
   generalize w.alloc (.cells (tkA 0 0 [] 0) 63) = w1 at *
   obtain ⟨R, hR⟩ : ∃ R, w.heap.size = R := ⟨_, rfl⟩
   have HR : Hid (w.heap.size ≤ R) := by show w.heap.size ≤ R; omega
   rw [hR] at RA ⊢
   clear hR
   go_wp2_with fail
   refine (C1 _).mono ?_
   rintro e w2 ⟨rfl, rfl⟩
   clear C1
   go_wp2_with (refine wpList_store_row rfl 63 (.tmp 2) (.tmp 25) rfl R (tkA 0 0 [] 0) rfl rfl 63 _ RA size63 rfl (by simp [tkA, Value.oneCell']) ?_)
   refine bodyPost_ret (ret_row rfl _ _ R (tkA 0 0 [] 0) _ rfl (RA.setRow _) Tryz.underlying63 rfl size63) rfl ?_
   exact ⟨by rw [HX.out]; rfl, vgrown_setRow G0 _ _ (.inr HR.out)⟩
  ·have hn2 : numV (sl s) = numB 10 (sl s) := by
    rw [hn, if_neg]
    rintro ⟨h1, h2⟩
    rw [h0] at h1
    exact hc ⟨Option.some.inj h1, h2⟩
   rw [← hn2] at CP
   have HCP : Hid _ := CP
   by_cases h48 : s[0] = 48
   ·have hs48 : sl s = [48] := Decidable.byContradiction fun h => hc ⟨h48, h⟩
    have c0 : s[0].toNat = 48 := by rw [h48]; rfl
    have hz : (s.toList == [48]) = true := by rw [hzz, decide_eq_true hs48]
    clear hn hn2 h0 hc hzz hp hsl hne' hw T CP h48 hs48
    go_enter Tryz.func38, Tryz.ntmps38
    go_upto_region 1 with fail
    rw [show (w.alloc (.cells #[.int .i64 0, .int .i64 0, .string ⟨#[]⟩, .int .u32 0] 63)) = w.alloc (.cells (tkA 0 0 [] 0) 63) from rfl]
    generalize w.alloc (.cells (tkA 0 0 [] 0) 63) = w1 at *
    obtain ⟨R, hR⟩ : ∃ R, w.heap.size = R := ⟨_, rfl⟩
    have HR : Hid (w.heap.size ≤ R) := by show w.heap.size ≤ R; omega
    rw [hR] at RA ⊢
    clear hR
    go_wp2_with fail
    refine (C1 _).mono ?_
    rintro e w2 ⟨rfl, rfl⟩
    clear C1
    have CP := HCP.out _ (HT.out.grown G0)
    clear HCP
    go_wp2_with fail
    refine CP.mono ?_
    rintro e w3 ⟨⟨n, er, rfl, h⟩, K3⟩
    have RA3 := RA.kept K3
    have G3 := grown_trans G0 K3
    clear CP RA G0 K3
    rcases h with ⟨hr, ty, v, rfl⟩ | ⟨m, hr, rfl, rfl⟩
    ·have HX : Hid (nmV (sl s) = .error 102) := by show nmV _ = _; rw [nmV, hr]
     clear hr
     go_wp2_with (refine wpList_store_row rfl 63 (.tmp 2) (.tmp 34) rfl R (tkA 0 0 [] 0) rfl rfl 63 _ RA3 size63 rfl (by simp [tkA, Value.oneCell']) ?_)
     refine bodyPost_ret (ret_row rfl _ _ R (tkA 0 0 [] 0) _ rfl (RA3.setRow _) Tryz.underlying63 rfl size63) rfl ?_
     exact ⟨by rw [HX.out]; rfl, vgrown_setRow G3 _ _ (.inr HR.out)⟩
    ·have HX : Hid (nmV (sl s) = .ok (1, sl s, m)) := by show nmV _ = _; rw [nmV, hr]
     have hm := numV_le hr
     have hwm : IntKind.u32.wrap (m : Int) = (m : Int) := by rw [IntKind.wrap_u32]; omega
     clear hr
     go_wp2_with (refine wpList_store_row rfl 63 (.tmp 2) (.tmp 38) rfl R (tkA 1 0 (sl s) m) rfl rfl 63 _ RA3 size63 rfl (by simp [tkA, Value.oneCell']) ?_)
     refine bodyPost_ret (ret_row rfl _ _ R (tkA 1 0 (sl s) m) _ rfl (RA3.setRow _) Tryz.underlying63 rfl size63) rfl ?_
     exact ⟨by rw [HX.out]; rfl, vgrown_setRow G3 _ _ (.inr HR.out)⟩
   ·have c0 : ((s[0].toNat : Int) == 48) = false := by
     rw [beq_eq_false_iff_ne]
     intro e
     exact h48 (UInt8.toNat_inj.1 (by simpa using (by omega : s[0].toNat = 48)))
    clear hn hn2 h0 hc hzz hp hsl hne' hw T CP h48
    go_enter Tryz.func38, Tryz.ntmps38
    go_upto_region 1 with fail
    rw [show (w.alloc (.cells #[.int .i64 0, .int .i64 0, .string ⟨#[]⟩, .int .u32 0] 63)) = w.alloc (.cells (tkA 0 0 [] 0) 63) from rfl]
    generalize w.alloc (.cells (tkA 0 0 [] 0) 63) = w1 at *
    obtain ⟨R, hR⟩ : ∃ R, w.heap.size = R := ⟨_, rfl⟩
    have HR : Hid (w.heap.size ≤ R) := by show w.heap.size ≤ R; omega
    rw [hR] at RA ⊢
    clear hR
    go_wp2_with fail
    refine (C1 _).mono ?_
    rintro e w2 ⟨rfl, rfl⟩
    clear C1
    have CP := HCP.out _ (HT.out.grown G0)
    clear HCP
    go_wp2_with fail
    refine CP.mono ?_
    rintro e w3 ⟨⟨n, er, rfl, h⟩, K3⟩
    have RA3 := RA.kept K3
    have G3 := grown_trans G0 K3
    clear CP RA G0 K3
    rcases h with ⟨hr, ty, v, rfl⟩ | ⟨m, hr, rfl, rfl⟩
    ·have HX : Hid (nmV (sl s) = .error 102) := by show nmV _ = _; rw [nmV, hr]
     clear hr
     go_wp2_with (refine wpList_store_row rfl 63 (.tmp 2) (.tmp 34) rfl R (tkA 0 0 [] 0) rfl rfl 63 _ RA3 size63 rfl (by simp [tkA, Value.oneCell']) ?_)
     refine bodyPost_ret (ret_row rfl _ _ R (tkA 0 0 [] 0) _ rfl (RA3.setRow _) Tryz.underlying63 rfl size63) rfl ?_
     exact ⟨by rw [HX.out]; rfl, vgrown_setRow G3 _ _ (.inr HR.out)⟩
    ·have HX : Hid (nmV (sl s) = .ok (1, sl s, m)) := by show nmV _ = _; rw [nmV, hr]
     have hm := numV_le hr
     have hwm : IntKind.u32.wrap (m : Int) = (m : Int) := by rw [IntKind.wrap_u32]; omega
     clear hr
     go_wp2_with (refine wpList_store_row rfl 63 (.tmp 2) (.tmp 38) rfl R (tkA 1 0 (sl s) m) rfl rfl 63 _ RA3 size63 rfl (by simp [tkA, Value.oneCell']) ?_)
     refine bodyPost_ret (ret_row rfl _ _ R (tkA 1 0 (sl s) m) _ rfl (RA3.setRow _) Tryz.underlying63 rfl size63) rfl ?_
     exact ⟨by rw [HX.out]; rfl, vgrown_setRow G3 _ _ (.inr HR.out)⟩
theorem tok_six {s : List UInt8} (h : 2 ≤ (s.takeWhile sixB).count 58) : tokV s = .ok (4, s.takeWhile sixB, 0) := by rw [tokV, if_pos h]
theorem tok_quad {s : List UInt8} (h : ¬ 2 ≤ (s.takeWhile sixB).count 58) (hd : s.head?.any isDig = true) (hq : (s.takeWhile quadB).contains 46 = true) : tokV s = .ok (3, s.takeWhile quadB, 0) := by
 rw [tokV, if_neg h, if_pos hd, if_pos (by simpa using hq)]
theorem tok_numb {s : List UInt8} (h : ¬ 2 ≤ (s.takeWhile sixB).count 58) (hd : s.head?.any isDig = true) (hq : (s.takeWhile quadB).contains 46 = false) : tokV s = nmV (s.takeWhile wordB) := by
 rw [tokV, if_neg h, if_pos hd, if_neg (by simpa using hq)]
 unfold nmV
 rfl
theorem tok_word {s : List UInt8} (h : ¬ 2 ≤ (s.takeWhile sixB).count 58) (hd : s.head?.any isDig = false) (hl : s.head?.any letB = true) : tokV s = .ok (2, s.takeWhile wordB, 0) := by
 rw [tokV, if_neg h, if_neg (by rw [hd]; simp), if_pos hl]
theorem tok_sign {s : List UInt8} (h : ¬ 2 ≤ (s.takeWhile sixB).count 58) (hd : s.head?.any isDig = false) (hl : s.head?.any letB = false) : tokV s = if signV s = [] then .error 101 else .ok (5, signV s, 0) := by
 rw [tokV, if_neg h, if_neg (by rw [hd]; simp), if_neg (by rw [hl]; simp)]
set_option maxRecDepth 100000 in
set_option maxHeartbeats 8000000 in
theorem next_any (s : ByteArray) (hs : s.size ≤ 140737488355328) (hne : 0 < s.size) (w : World) (T : Tab w) :
  Calls Tryz.prog 24 #[.string s] w fun e w' => e = .returned (.tuple #[.agg (tokA 0 (tokV (sl s))), .int .i64 (tokE (tokV (sl s)))]) ∧ w.grownBy w' none := by
 have RA := VAt.alloc w 63 (tkA 0 0 [] 0)
 have G0 := World.grownBy_alloc w (.cells (tkA 0 0 [] 0) 63) none
 have HT : Hid (Tab w) := T
 have h0 : (sl s).head? = some s[0] := by
  have := sl_drop s 0 hne
  rw [List.drop_zero] at this
  rw [this]
  rfl
 have hcons : sl s = s[0] :: (sl s).drop 1 := by
  have := sl_drop s 0 hne
  rw [List.drop_zero] at this
  exact this
 have C6 : Hid (∀ W : World, Calls Tryz.prog 36 #[.string s] W fun e w' => e = .returned (str (sixV (sl s))) ∧ W.grownBy w' none) := fun W => six_any s hs W
 have C4 : Hid (∀ W : World, Calls Tryz.prog 37 #[.string s] W fun e w' => e = .returned (str (quadV (sl s))) ∧ W.grownBy w' none) := fun W => quad_any s hs W
 have CW : Hid (∀ W : World, Calls Tryz.prog 39 #[.string s] W fun e w' => e = .returned (str ((sl s).takeWhile wordB)) ∧ W = w') := fun W => name_any s hs W
 have CK : Hid (∀ W : World, Calls Tryz.prog 23 #[.int .u8 (s[0].toNat : Int)] W fun e w' => e = .returned (.int .i64 (kindN s[0].toNat : Int)) ∧ W = w') := fun W => kind_any _ W
 have CG : Hid (∀ W : World, Tab W → Calls Tryz.prog 40 #[.string s] W fun e w' => e = .returned (str (signV (sl s))) ∧ W.grownBy w' none) := fun W TW => sign_any s hs W TW
 have hk := kind_is s[0]
 have hni : (0 : Int) < (s.size : Int) := by omega
 clear T
 by_cases h6 : 2 ≤ ((sl s).takeWhile sixB).count 58
 ·have HX : Hid _ := tok_six h6
  have e6 : sixV (sl s) = (sl s).takeWhile sixB := by rw [sixV, if_pos h6]
  rw [e6] at C6
  have hnn : ((sl s).takeWhile sixB).isEmpty = false := by
   cases hh : (sl s).takeWhile sixB with
   | nil => rw [hh] at h6; exact absurd h6 (by decide)
   | cons a b => rfl
  clear h6 e6 h0 hcons C4 CW CK CG hk HT
  obtain ⟨S6, hS⟩ : ∃ S, (sl s).takeWhile sixB = S := ⟨_, rfl⟩
  rw [hS] at C6 HX hnn
  clear hS
  go_enter Tryz.func24, Tryz.ntmps24
  go_upto_region 1 with fail
  rw [show (w.alloc (.cells #[.int .i64 0, .int .i64 0, .string ⟨#[]⟩, .int .u32 0] 63)) = w.alloc (.cells (tkA 0 0 [] 0) 63) from rfl]
  generalize w.alloc (.cells (tkA 0 0 [] 0) 63) = w1 at *
  obtain ⟨R, hR⟩ : ∃ R, w.heap.size = R := ⟨_, rfl⟩
  have HR : Hid (w.heap.size ≤ R) := by show w.heap.size ≤ R; omega
  rw [hR] at RA ⊢
  clear hR
  go_wp2_with fail
  refine (C6.out _).mono ?_
  rintro e w2 ⟨rfl, K2⟩
  have RA2 := RA.kept K2
  have G2 := grown_trans G0 K2
  clear C6 RA G0 K2
  go_wp2_with (refine wpList_store_row rfl 63 (.tmp 2) (.tmp 12) rfl R (tkA 4 0 S6 0) rfl rfl 63 _ RA2 size63 rfl (by simp [tkA, Value.oneCell']) ?_)
  refine bodyPost_ret (ret_row rfl _ _ R (tkA 4 0 S6 0) _ rfl (RA2.setRow _) Tryz.underlying63 rfl size63) rfl ?_
  exact ⟨by rw [HX.out]; rfl, vgrown_setRow G2 _ _ (.inr HR.out)⟩
 ·have e6 : sixV (sl s) = [] := by rw [sixV, if_neg h6]
  rw [e6] at C6
  clear e6
  cases hd : isDig s[0] with
  | true =>
   have hd' : (sl s).head?.any isDig = true := by rw [h0]; exact hd
   have hk2 : kindN s[0].toNat = 2 := by have := hk.2.2.2.2.2.2.1; rw [hd] at this; exact of_decide_eq_true this.symm
   rw [hk2] at CK
   clear hk2 hk
   cases hq : ((sl s).takeWhile quadB).contains 46 with
   | true =>
    have HX : Hid _ := tok_quad h6 hd' hq
    have e4 : quadV (sl s) = (sl s).takeWhile quadB := by rw [quadV, if_pos hq]
    rw [e4] at C4
    have hnn : ((sl s).takeWhile quadB).isEmpty = false := by
     cases hh : (sl s).takeWhile quadB with
     | nil => rw [hh] at hq; exact absurd hq (by decide)
     | cons a b => rfl
    clear h6 e4 h0 hcons CW CG HT hd hd' hq
    obtain ⟨S4, hS⟩ : ∃ S, (sl s).takeWhile quadB = S := ⟨_, rfl⟩
    rw [hS] at C4 HX hnn
    clear hS
    go_enter Tryz.func24, Tryz.ntmps24
    go_upto_region 1 with fail
    rw [show (w.alloc (.cells #[.int .i64 0, .int .i64 0, .string ⟨#[]⟩, .int .u32 0] 63)) = w.alloc (.cells (tkA 0 0 [] 0) 63) from rfl]
    generalize w.alloc (.cells (tkA 0 0 [] 0) 63) = w1 at *
    obtain ⟨R, hR⟩ : ∃ R, w.heap.size = R := ⟨_, rfl⟩
    have HR : Hid (w.heap.size ≤ R) := by show w.heap.size ≤ R; omega
    rw [hR] at RA ⊢
    clear hR
    go_wp2_with fail
    refine (C6.out _).mono ?_
    rintro e w2 ⟨rfl, K2⟩
    have RA2 := RA.kept K2
    have G2 := grown_trans G0 K2
    clear C6 RA G0 K2
    go_wp2_with fail
    refine (CK.out _).mono ?_
    rintro e w3 ⟨rfl, rfl⟩
    clear CK
    go_wp2_with fail
    refine (C4.out _).mono ?_
    rintro e w4 ⟨rfl, K4⟩
    have RA4 := RA2.kept K4
    have G4 := grown_trans G2 K4
    clear C4 RA2 G2 K4
    go_wp2_with (refine wpList_store_row rfl 63 (.tmp 2) (.tmp 23) rfl R (tkA 3 0 S4 0) rfl rfl 63 _ RA4 size63 rfl (by simp [tkA, Value.oneCell']) ?_)
    refine bodyPost_ret (ret_row rfl _ _ R (tkA 3 0 S4 0) _ rfl (RA4.setRow _) Tryz.underlying63 rfl size63) rfl ?_
    exact ⟨by rw [HX.out]; rfl, vgrown_setRow G4 _ _ (.inr HR.out)⟩
   | false =>
    have hX := tok_numb h6 hd' hq
    have e4 : quadV (sl s) = [] := by rw [quadV, if_neg (by rw [hq]; simp)]
    rw [e4] at C4
    have hwd : wordB s[0] = true := by rw [wordB, hd]; rfl
    have hW0 : 0 < ((sl s).takeWhile wordB).length := by
     rw [hcons, List.takeWhile_cons_of_pos hwd]
     simp
    have hWl : ((sl s).takeWhile wordB).length ≤ 140737488355328 := by
     have := takeWhile_len wordB (sl s)
     rw [sl_len] at this
     omega
    have hWw : ∀ c ∈ (sl s).takeWhile wordB, wordB c = true := fun c hc => takeWhile_mem wordB _ hc
    clear h6 e4 h0 hcons CG hd hd' hq hwd
    obtain ⟨SW, hS⟩ : ∃ S, (sl s).takeWhile wordB = S := ⟨_, rfl⟩
    rw [hS] at CW hX hW0 hWl hWw
    clear hS
    have CN : Hid (∀ W : World, Tab W → Calls Tryz.prog 38 #[str SW] W fun e w' => e = .returned (.tuple #[.agg (tokA 0 (nmV SW)), .int .i64 (tokE (nmV SW))]) ∧ W.grownBy w' none) := fun W TW => by
     have hz : (⟨SW.toArray⟩ : ByteArray).size = SW.length := by rw [← sl_len, sl_str]
     exact number_any ⟨SW.toArray⟩ (by rw [hz]; exact hWl) (by rw [hz]; exact hW0) (by rw [sl_str]; exact hWw) W TW
    clear hW0 hWl hWw
    cases hm : nmV SW with
    | error er =>
     rw [hm] at CN hX
     simp only [tokA, tokE] at CN
     have HX : Hid _ := hX
     clear hm hX
     go_enter Tryz.func24, Tryz.ntmps24
     go_upto_region 1 with fail
     rw [show (w.alloc (.cells #[.int .i64 0, .int .i64 0, .string ⟨#[]⟩, .int .u32 0] 63)) = w.alloc (.cells (tkA 0 0 [] 0) 63) from rfl]
     generalize w.alloc (.cells (tkA 0 0 [] 0) 63) = w1 at *
     obtain ⟨R, hR⟩ : ∃ R, w.heap.size = R := ⟨_, rfl⟩
     have HR : Hid (w.heap.size ≤ R) := by show w.heap.size ≤ R; omega
     rw [hR] at RA ⊢
     clear hR
     go_wp2_with fail
     refine (C6.out _).mono ?_
     rintro e w2 ⟨rfl, K2⟩
     have RA2 := RA.kept K2
     have G2 := grown_trans G0 K2
     clear C6 RA G0 K2
     go_wp2_with fail
     refine (CK.out _).mono ?_
     rintro e w3 ⟨rfl, rfl⟩
     clear CK
     go_wp2_with fail
     refine (C4.out _).mono ?_
     rintro e w4 ⟨rfl, K4⟩
     have RA4 := RA2.kept K4
     have G4 := grown_trans G2 K4
     clear C4 RA2 G2 K4
     go_wp2_with fail
     refine (CW.out _).mono ?_
     rintro e w5 ⟨rfl, rfl⟩
     clear CW
     have CN5 := CN.out _ (HT.out.grown G4)
     clear CN HT
     go_wp2_with fail
     refine CN5.mono ?_
     rintro e w6 ⟨rfl, K6⟩
     have RA6 := RA4.kept K6
     have G6 := grown_trans G4 K6
     clear CN5 RA4 G4 K6
     go_wp2_with (refine wpList_store_row rfl 63 (.tmp 2) (.tmp 27) rfl R (tkA 0 0 [] 0) rfl rfl 63 _ RA6 size63 rfl (by simp [tkA, Value.oneCell']) ?_)
     refine bodyPost_ret (ret_row rfl _ _ R (tkA 0 0 [] 0) _ rfl (RA6.setRow _) Tryz.underlying63 rfl size63) rfl ?_
     exact ⟨by rw [HX.out]; rfl, vgrown_setRow G6 _ _ (.inr HR.out)⟩
    | ok y =>
     obtain ⟨q, t, n⟩ := y
     rw [hm] at CN hX
     simp only [tokA, tokE] at CN
     have HX : Hid _ := hX
     clear hm hX
     go_enter Tryz.func24, Tryz.ntmps24
     go_upto_region 1 with fail
     rw [show (w.alloc (.cells #[.int .i64 0, .int .i64 0, .string ⟨#[]⟩, .int .u32 0] 63)) = w.alloc (.cells (tkA 0 0 [] 0) 63) from rfl]
     generalize w.alloc (.cells (tkA 0 0 [] 0) 63) = w1 at *
     obtain ⟨R, hR⟩ : ∃ R, w.heap.size = R := ⟨_, rfl⟩
     have HR : Hid (w.heap.size ≤ R) := by show w.heap.size ≤ R; omega
     rw [hR] at RA ⊢
     clear hR
     go_wp2_with fail
     refine (C6.out _).mono ?_
     rintro e w2 ⟨rfl, K2⟩
     have RA2 := RA.kept K2
     have G2 := grown_trans G0 K2
     clear C6 RA G0 K2
     go_wp2_with fail
     refine (CK.out _).mono ?_
     rintro e w3 ⟨rfl, rfl⟩
     clear CK
     go_wp2_with fail
     refine (C4.out _).mono ?_
     rintro e w4 ⟨rfl, K4⟩
     have RA4 := RA2.kept K4
     have G4 := grown_trans G2 K4
     clear C4 RA2 G2 K4
     go_wp2_with fail
     refine (CW.out _).mono ?_
     rintro e w5 ⟨rfl, rfl⟩
     clear CW
     have CN5 := CN.out _ (HT.out.grown G4)
     clear CN HT
     go_wp2_with fail
     refine CN5.mono ?_
     rintro e w6 ⟨rfl, K6⟩
     have RA6 := RA4.kept K6
     have G6 := grown_trans G4 K6
     clear CN5 RA4 G4 K6
     go_wp2_with (refine wpList_store_row rfl 63 (.tmp 2) (.tmp 27) rfl R (tkA q 0 t n) rfl rfl 63 _ RA6 size63 rfl (by simp [tkA, Value.oneCell']) ?_)
     refine bodyPost_ret (ret_row rfl _ _ R (tkA q 0 t n) _ rfl (RA6.setRow _) Tryz.underlying63 rfl size63) rfl ?_
     exact ⟨by rw [HX.out]; rfl, vgrown_setRow G6 _ _ (.inr HR.out)⟩
  | false =>
   have hd' : (sl s).head?.any isDig = false := by rw [h0]; exact hd
   cases hl : letB s[0] with
   | true =>
    have hl' : (sl s).head?.any letB = true := by rw [h0]; exact hl
    have HX : Hid _ := tok_word h6 hd' hl'
    have hk3 : kindN s[0].toNat = 3 ∨ kindN s[0].toNat = 4 := by have := hk.2.2.2.2.2.2.2; rw [hl] at this; exact of_decide_eq_true this.symm
    clear h6 h0 hcons C4 CG hk HT hd hd' hl hl'
    obtain ⟨SW, hS⟩ : ∃ S, (sl s).takeWhile wordB = S := ⟨_, rfl⟩
    rw [hS] at CW HX
    clear hS
    rcases hk3 with hk3 | hk3
    all_goals
     rw [hk3] at CK
     clear hk3
     go_enter Tryz.func24, Tryz.ntmps24
     go_upto_region 1 with fail
     rw [show (w.alloc (.cells #[.int .i64 0, .int .i64 0, .string ⟨#[]⟩, .int .u32 0] 63)) = w.alloc (.cells (tkA 0 0 [] 0) 63) from rfl]
     generalize w.alloc (.cells (tkA 0 0 [] 0) 63) = w1 at *
     obtain ⟨R, hR⟩ : ∃ R, w.heap.size = R := ⟨_, rfl⟩
     have HR : Hid (w.heap.size ≤ R) := by show w.heap.size ≤ R; omega
     rw [hR] at RA ⊢
     clear hR
     go_wp2_with fail
     refine (C6.out _).mono ?_
     rintro e w2 ⟨rfl, K2⟩
     have RA2 := RA.kept K2
     have G2 := grown_trans G0 K2
     clear C6 RA G0 K2
     go_wp2_with fail
     refine (CK.out _).mono ?_
     rintro e w3 ⟨rfl, rfl⟩
     clear CK
     go_wp2_with fail
     refine (CW.out _).mono ?_
     rintro e w5 ⟨rfl, rfl⟩
     clear CW
     go_wp2_with (refine wpList_store_row rfl 63 (.tmp 2) (.tmp 34) rfl R (tkA 2 0 SW 0) rfl rfl 63 _ RA2 size63 rfl (by simp [tkA, Value.oneCell']) ?_)
     refine bodyPost_ret (ret_row rfl _ _ R (tkA 2 0 SW 0) _ rfl (RA2.setRow _) Tryz.underlying63 rfl size63) rfl ?_
     exact ⟨by rw [HX.out]; rfl, vgrown_setRow G2 _ _ (.inr HR.out)⟩
   | false =>
    have hl' : (sl s).head?.any letB = false := by rw [h0]; exact hl
    have hX := tok_sign h6 hd' hl'
    have hk2 : kindN s[0].toNat ≠ 2 := by have := hk.2.2.2.2.2.2.1; rw [hd] at this; exact of_decide_eq_false this.symm
    have hk3 : ¬ (kindN s[0].toNat = 3 ∨ kindN s[0].toNat = 4) := by have := hk.2.2.2.2.2.2.2; rw [hl] at this; exact of_decide_eq_false this.symm
    clear h6 h0 hcons C4 CW hk hd hd' hl hl'
    obtain ⟨SG, hS⟩ : ∃ S, signV (sl s) = S := ⟨_, rfl⟩
    rw [hS] at CG hX
    clear hS
    generalize kindN s[0].toNat = kk at *
    have k2 : ((kk : Int) == 2) = false := by rw [beq_eq_false_iff_ne]; omega
    have k3 : ((kk : Int) == 3) = false := by rw [beq_eq_false_iff_ne]; omega
    have k4 : ((kk : Int) == 4) = false := by rw [beq_eq_false_iff_ne]; omega
    clear hk2 hk3
    by_cases hg : SG = []
    ·subst hg
     rw [if_pos rfl] at hX
     have HX : Hid _ := hX
     clear hX
     go_enter Tryz.func24, Tryz.ntmps24
     go_upto_region 1 with fail
     rw [show (w.alloc (.cells #[.int .i64 0, .int .i64 0, .string ⟨#[]⟩, .int .u32 0] 63)) = w.alloc (.cells (tkA 0 0 [] 0) 63) from rfl]
     generalize w.alloc (.cells (tkA 0 0 [] 0) 63) = w1 at *
     obtain ⟨R, hR⟩ : ∃ R, w.heap.size = R := ⟨_, rfl⟩
     have HR : Hid (w.heap.size ≤ R) := by show w.heap.size ≤ R; omega
     rw [hR] at RA ⊢
     clear hR
     go_wp2_with fail
     refine (C6.out _).mono ?_
     rintro e w2 ⟨rfl, K2⟩
     have RA2 := RA.kept K2
     have G2 := grown_trans G0 K2
     clear C6 RA G0 K2
     go_wp2_with fail
     refine (CK.out _).mono ?_
     rintro e w3 ⟨rfl, rfl⟩
     clear CK
     have CG3 := CG.out _ (HT.out.grown G2)
     clear CG HT
     go_wp2_with fail
     refine CG3.mono ?_
     rintro e w5 ⟨rfl, K5⟩
     have RA5 := RA2.kept K5
     have G5 := grown_trans G2 K5
     clear CG3 RA2 G2 K5
     go_wp2_with (refine wpList_store_row rfl 63 (.tmp 2) (.tmp 41) rfl R (tkA 0 0 [] 0) rfl rfl 63 _ RA5 size63 rfl (by simp [tkA, Value.oneCell']) ?_)
     refine bodyPost_ret (ret_row rfl _ _ R (tkA 0 0 [] 0) _ rfl (RA5.setRow _) Tryz.underlying63 rfl size63) rfl ?_
     exact ⟨by rw [HX.out]; rfl, vgrown_setRow G5 _ _ (.inr HR.out)⟩
    ·have hgf : SG.isEmpty = false := by simpa using hg
     rw [if_neg hg] at hX
     have HX : Hid _ := hX
     clear hX hg
     go_enter Tryz.func24, Tryz.ntmps24
     go_upto_region 1 with fail
     rw [show (w.alloc (.cells #[.int .i64 0, .int .i64 0, .string ⟨#[]⟩, .int .u32 0] 63)) = w.alloc (.cells (tkA 0 0 [] 0) 63) from rfl]
     generalize w.alloc (.cells (tkA 0 0 [] 0) 63) = w1 at *
     obtain ⟨R, hR⟩ : ∃ R, w.heap.size = R := ⟨_, rfl⟩
     have HR : Hid (w.heap.size ≤ R) := by show w.heap.size ≤ R; omega
     rw [hR] at RA ⊢
     clear hR
     go_wp2_with fail
     refine (C6.out _).mono ?_
     rintro e w2 ⟨rfl, K2⟩
     have RA2 := RA.kept K2
     have G2 := grown_trans G0 K2
     clear C6 RA G0 K2
     go_wp2_with fail
     refine (CK.out _).mono ?_
     rintro e w3 ⟨rfl, rfl⟩
     clear CK
     have CG3 := CG.out _ (HT.out.grown G2)
     clear CG HT
     go_wp2_with fail
     refine CG3.mono ?_
     rintro e w5 ⟨rfl, K5⟩
     have RA5 := RA2.kept K5
     have G5 := grown_trans G2 K5
     clear CG3 RA2 G2 K5
     go_wp2_with (refine wpList_store_row rfl 63 (.tmp 2) (.tmp 40) rfl R (tkA 5 0 SG 0) rfl rfl 63 _ RA5 size63 rfl (by simp [tkA, Value.oneCell']) ?_)
     refine bodyPost_ret (ret_row rfl _ _ R (tkA 5 0 SG 0) _ rfl (RA5.setRow _) Tryz.underlying63 rfl size63) rfl ?_
     exact ⟨by rw [HX.out]; rfl, vgrown_setRow G5 _ _ (.inr HR.out)⟩
theorem drop_while (s : List UInt8) (p : UInt8 → Bool) : s = s.takeWhile p ++ s.drop (s.takeWhile p).length := by
 have h := takeWhile_pre p s
 generalize (s.takeWhile p).length = n at h
 rw [h, List.take_append_drop]
theorem drop_not (s : List UInt8) (p : UInt8 → Bool) (c : UInt8) (r : List UInt8) (h : s.drop (s.takeWhile p).length = c :: r) : p c = false := by
 induction s with
 | nil => simp at h
 | cons a s ih =>
  by_cases ha : p a = true
  ·rw [List.takeWhile_cons_of_pos ha] at h
   exact ih (by simpa using h)
  ·rw [List.takeWhile_cons_of_neg ha] at h
   simp at h
   rw [← h.1]
   simpa using ha
set_option maxRecDepth 100000 in
set_option maxHeartbeats 8000000 in
theorem lex_any (s : ByteArray) (hs : s.size ≤ 140737488355328) (w : World) (T : Tab w) :
  Calls Tryz.prog 12 #[.string s] w fun e w' => ∃ v, e = .returned (.tuple #[v, .int .i64 (lexP (lexV (sl s)) : Int), .int .i64 (lexE (lexV (sl s)))]) ∧ TOwns w' w.heap.size v (lexT (lexV (sl s))) ∧ w.grownBy w' none := by
 by_cases hl : 65536 < s.size
 ·have e0 : lexV (sl s) = .error (0, 100) := by rw [lexV, if_pos (by rw [sl_len]; exact hl)]
  rw [e0]
  have hl' : (65536 : Int) < (s.size : Int) := by omega
  clear e0 T
  go_enter Tryz.func12, Tryz.ntmps12
  go_wp2
  go_ret3
  exact ⟨_, rfl, World.ownsRow_nil _ _ _ _, World.grownBy.refl _ _⟩
 have e0 : lexV (sl s) = lexR 0 (sl s) := by rw [lexV, if_neg (by rw [sl_len]; exact hl)]
 have hl' : ¬ (65536 : Int) < (s.size : Int) := by omega
 have hl2 : s.size ≤ 65536 := by omega
 obtain ⟨ans, hans⟩ : ∃ ans, lexV (sl s) = ans := ⟨_, rfl⟩
 have HA : Hid (lexR 0 (sl s) = ans) := by show lexR 0 (sl s) = ans; rw [← e0]; exact hans
 rw [hans]
 have HT : Hid (Tab w) := T
 clear e0 hans hl T
 obtain ⟨i0, hi, hz0, hz1, hz2⟩ := info_parts info63
 go_enter Tryz.func12, Tryz.ntmps12
 go_upto_region 5 with fail
 go_loopw [5, 6] (fun u x wr => ∃ (j : Nat) (us : List Tk), j ≤ s.size ∧ us.length ≤ j ∧ x = .int .i64 j ∧ Hid (glue us (lexR j ((sl s).drop j)) = ans) ∧ TOwns wr w.heap.size u us ∧ w.grownBy wr none) (fun _ x _ => s.size - (intOf x).toNat)
 case atStart => exact ⟨0, [], Nat.zero_le _, Nat.zero_le _, rfl, by show glue [] (lexR 0 ((sl s).drop 0)) = ans; rw [List.drop_zero, HA.out]; cases ans <;> rfl, World.ownsRow_nil _ _ _ _, World.grownBy.refl _ _⟩
 case round =>
  clear HA
  obtain ⟨j, us, hj, hu, rfl, HI, OU, G⟩ := hrel
  have z0 : (0 : Int) ≤ (j : Int) := by omega
  have hji : (j : Int) ≤ (s.size : Int) := by omega
  have hex : ∀ k, sl (s.extract k s.size) = (sl s).drop k := fun k => by
   rw [sl_extract]
   exact List.take_of_length_le (by rw [List.length_drop, sl_len]; exact Nat.le_refl _)
  have hxs : ∀ k, (s.extract k s.size).size ≤ 140737488355328 := fun k => by rw [← sl_len, hex, List.length_drop, sl_len]; omega
  have CB := runblank_any (s.extract j s.size) (hxs j) wr
  rw [hex j] at CB
  have hsplit := drop_while ((sl s).drop j) blankB
  have hnot := drop_not ((sl s).drop j) blankB
  have hbl : (((sl s).drop j).takeWhile blankB).length ≤ s.size - j := by
   have := takeWhile_len blankB ((sl s).drop j)
   rw [List.length_drop, sl_len] at this
   exact this
  have hskip := lexR_skip j (((sl s).drop j).takeWhile blankB) (((sl s).drop j).drop (((sl s).drop j).takeWhile blankB).length) (fun b hb => takeWhile_mem blankB _ hb)
  rw [← hsplit, List.drop_drop] at hskip
  simp only [List.drop_drop] at hnot
  clear hsplit
  obtain ⟨B, hB⟩ : ∃ B, ((sl s).drop j).takeWhile blankB = B := ⟨_, rfl⟩
  rw [hB] at CB hbl hskip hnot
  have hBs : ((⟨B.toArray⟩ : ByteArray).size : Int) = (B.length : Int) := by rw [← sl_len, sl_str]
  obtain ⟨k, hk⟩ : ∃ k, j + B.length = k := ⟨_, rfl⟩
  have hw : IntKind.i64.wrap ((j : Int) + (B.length : Int)) = (k : Int) := by rw [IntKind.wrap_i64]; omega
  rw [hk] at hskip hnot
  have HI2 : Hid (glue us (lexR k ((sl s).drop k)) = ans) := by show glue us _ = ans; rw [← hskip]; exact HI.out
  have hks : k ≤ s.size := by omega
  have hku : us.length ≤ k := by omega
  have hjk : j ≤ k := by omega
  have HNB : Hid (∀ c r, (sl s).drop k = c :: r → blankB c = false) := hnot
  have z1 : (0 : Int) ≤ (k : Int) := by omega
  have hksi : (k : Int) ≤ (s.size : Int) := by omega
  clear HI hskip hnot hB hbl hk hu hj
  by_cases hlt : k < s.size
  ·have hne : ((k : Int) == (s.size : Int)) = false := by rw [beq_eq_false_iff_ne]; omega
   have HD : Hid ((sl s).drop k = s[k] :: (sl s).drop (k + 1)) := sl_drop s k hlt
   have hb : blankB s[k] = false := HNB.out _ _ HD.out
   have hpos : 0 < (s.extract k s.size).size := by rw [← sl_len, hex, List.length_drop, sl_len]; omega
   have CT := next_any (s.extract k s.size) (hxs k) hpos wr (HT.out.grown G)
   rw [hex k] at CT
   clear hpos hxs hex HNB
   cases ht : tokV ((sl s).drop k) with
   | error er =>
    rw [ht] at CT
    simp only [tokA, tokE, tkA] at CT
    have hz := tok_er ht
    have hans : ans = .error (k, er) := by
     rw [← HI2.out, HD.out, lexR_err k hb (by rw [← HD.out]; exact ht)]
     rfl
    subst hans
    have HG : Hid (w.grownBy wr none) := G
    clear HI2 HD OU G ht
    go_wp2_with fail
    refine CB.mono ?_
    rintro e w1 ⟨rfl, rfl⟩
    clear CB
    go_wp2_with fail
    refine CT.mono ?_
    rintro e w1 ⟨rfl, K1⟩
    have G1 := grown_trans HG.out K1
    clear CT K1
    go_wp2
    go_ret3
    exact ⟨_, rfl, World.ownsRow_nil _ _ _ _, grown_trans G1 (World.grownBy_alloc _ _ _)⟩
   | ok y =>
    obtain ⟨q, t, n⟩ := y
    rw [ht] at CT
    simp only [tokA, tokE, tkA] at CT
    have hok := tok_ok ht
    have htl : 1 ≤ t.length := List.length_pos_iff.2 hok.1
    have htl2 : k + t.length ≤ s.size := by
     have := hok.2.2.1
     rw [List.length_drop, sl_len] at this
     omega
    have HN : Hid (glue (us ++ [⟨q, k, t, n⟩]) (lexR (k + t.length) ((sl s).drop (k + t.length))) = ans) := by
     show glue _ _ = ans
     have e1 := lexR_tok k hb (by rw [← HD.out]; exact ht)
     rw [← HD.out, List.drop_drop] at e1
     rw [← HI2.out, e1]
     cases lexR (k + t.length) ((sl s).drop (k + t.length)) with
     | error e => rfl
     | ok ts => simp [glue]
    have HG : Hid (w.grownBy wr none) := G
    have HOU : Hid (TOwns wr w.heap.size u5 us) := OU
    clear HI2 HD OU G ht hok
    go_wp2_with fail
    refine CB.mono ?_
    rintro e w1 ⟨rfl, rfl⟩
    clear CB
    go_wp2_with fail
    refine CT.mono ?_
    rintro e w2 ⟨rfl, K2⟩
    clear CT
    go_upto_region 12 with fail
    have VA := VAt.alloc w2 63 #[.int .i64 (q : Int), .int .i64 (k : Int), str t, .int .u32 (n : Int)]
    have K3 := grown_trans K2 (World.grownBy_alloc w2 (.cells #[.int .i64 (q : Int), .int .i64 (k : Int), str t, .int .u32 (n : Int)] 63) none)
    have HV : Hid (∀ y, u5.ownBlock = some y → y < w2.heap.size) := fun y hy => by
     have := (World.ownsRow.lt HOU.out y hy).2
     have := K2.size
     omega
    have O3 : TOwns (w2.alloc (.cells #[.int .i64 (q : Int), .int .i64 (k : Int), str t, .int .u32 (n : Int)] 63)) w.heap.size u5 us := owns_keptNone HOU.out K3
    have G3 := grown_trans HG.out K3
    have HVL : Hid (w.heap.size ≤ w2.heap.size) := (grown_trans HG.out K2).size
    generalize w2.alloc (.cells #[.int .i64 (q : Int), .int .i64 (k : Int), str t, .int .u32 (n : Int)] 63) = w3 at *
    generalize w2.heap.size = V at *
    have HSZ : Hid ((Tryz.prog.info? 63).map (·.size) = some (#[.int .i64 (q : Int), .int .i64 (k : Int), str t, .int .u32 (n : Int)] : Array Value).size) := size63
    clear K2 K3 HOU HG
    have KA := World.grownBy_alloc w3 (.cells #[.int .i64 (q : Int), .int .i64 (k : Int), str t, .int .u32 (n : Int)] 63) none
    have HO4 : Hid (TOwns (w3.alloc (.cells #[.int .i64 (q : Int), .int .i64 (k : Int), str t, .int .u32 (n : Int)] 63)) w.heap.size u5 us ∧ VAt (w3.alloc (.cells #[.int .i64 (q : Int), .int .i64 (k : Int), str t, .int .u32 (n : Int)] 63)) V 63 #[.int .i64 (q : Int), .int .i64 (k : Int), str t, .int .u32 (n : Int)] ∧ w.grownBy (w3.alloc (.cells #[.int .i64 (q : Int), .int .i64 (k : Int), str t, .int .u32 (n : Int)] 63)) none) := ⟨owns_keptNone O3 KA, VA.kept KA, grown_trans G3 KA⟩
    have HCB : Hid (CV (w3.alloc (.cells #[.int .i64 (q : Int), .int .i64 (k : Int), str t, .int .u32 (n : Int)] 63)) (some ⟨w3.heap.size, 0, none⟩) [.int .i64 (q : Int), .int .i64 (k : Int), str t, .int .u32 (n : Int)]) := cv_lit w3 _ _
    clear O3 G3 KA
    go_wp2_with (first
     | refine wpList_load_row rfl 63 (.tmp 7) rfl V rfl 63 _ (0, 0) _ VA Tryz.underlying63 rfl HSZ.out ?_
     | (at_builtin; refine wpList_append_cv rfl (.tmp 41) (.tmp 43) 42 rfl 63 i0 _ 4 40 Tryz.underlying42 hi hz0 hz1 hz2 rfl (by decide) w.heap.size u5 us.length (flatT us) rfl ?r1 (some ⟨w3.heap.size, 0, none⟩) 1 1 [.int .i64 (q : Int), .int .i64 (k : Int), str t, .int .u32 (n : Int)] rfl rfl (by simp) ?r2 (by simp [Value.oneCell']) ?r3 ?r4 ?r5 ?r6))
    case r1 => exact HO4.out.1
    case r2 => exact HCB.out
    case r3 => unfold maxLen; omega
    case r4 => omega
    case r5 => exact HO4.out.2.2.size
    case r6 =>
     intro v5 w5 O5 K5
     have V5 := HO4.out.2.1.grown K5 (fun e => by have := HV.out V e; omega)
     have G5 := grown_trans_new HO4.out.2.2 K5 (fun x hx => (World.ownsRow.lt HO4.out.1 x hx).1)
     have HO5 : Hid (TOwns w5 w.heap.size v5 (us ++ [⟨q, k, t, n⟩]) ∧ w.grownBy w5 none) := ⟨by
      show w5.ownsRow w.heap.size 63 4 v5 (us ++ [(⟨q, k, t, n⟩ : Tk)]).length (flatT (us ++ [(⟨q, k, t, n⟩ : Tk)]))
      rw [List.length_append, flatT_append]
      exact O5, G5⟩
     have c2 : w5.cell? ⟨V, 2, none⟩ = some (str t) := V5.cell 2
     have hw2 : IntKind.i64.wrap ((k : Int) + (t.length : Int)) = ((k + t.length : Nat) : Int) := by rw [IntKind.wrap_i64]; omega
     have hts : ((⟨t.toArray⟩ : ByteArray).size : Int) = (t.length : Int) := by rw [← sl_len, sl_str]
     clear VA HO4 HCB O5 K5 V5 G5
     go_wp2
     go_roundw
     case rel => exact ⟨k + t.length, us ++ [⟨q, k, t, n⟩], htl2, by rw [List.length_append, List.length_singleton]; omega, by go_num, HN, HO5.out.1, HO5.out.2⟩
     case measure => simp [intOf]; omega
  ·obtain rfl : k = s.size := by omega
   have hne : ((s.size : Int) == (s.size : Int)) = true := by simp
   have hans : ans = .ok (us ++ [⟨0, s.size, [], 0⟩]) := by
    rw [← HI2.out, List.drop_eq_nil_of_le (by rw [sl_len]; exact Nat.le_refl _), lexR_nil]
    rfl
   subst hans
   have KA := World.grownBy_alloc wr (.cells #[.int .i64 0, .int .i64 (s.size : Int), str [], .int .u32 0] 63) none
   have HO4 : Hid (TOwns (wr.alloc (.cells #[.int .i64 0, .int .i64 (s.size : Int), str [], .int .u32 0] 63)) w.heap.size u5 us ∧ w.grownBy (wr.alloc (.cells #[.int .i64 0, .int .i64 (s.size : Int), str [], .int .u32 0] 63)) none) := ⟨owns_keptNone OU KA, grown_trans G KA⟩
   have HCB : Hid (CV (wr.alloc (.cells #[.int .i64 0, .int .i64 (s.size : Int), str [], .int .u32 0] 63)) (some ⟨wr.heap.size, 0, none⟩) [.int .i64 0, .int .i64 (s.size : Int), str [], .int .u32 0]) := cv_lit wr _ _
   clear HI2 OU G KA hxs hex HNB
   go_wp2_with fail
   refine CB.mono ?_
   rintro e w1 ⟨rfl, rfl⟩
   clear CB
   go_wp2_with (at_builtin; refine wpList_append_cv rfl (.tmp 23) (.tmp 26) 42 rfl 63 i0 _ 4 40 Tryz.underlying42 hi hz0 hz1 hz2 rfl (by decide) w.heap.size u5 us.length (flatT us) rfl ?r1 (some ⟨wr.heap.size, 0, none⟩) 1 1 [.int .i64 0, .int .i64 (s.size : Int), str [], .int .u32 0] rfl rfl (by simp) ?r2 (by simp [Value.oneCell']) ?r3 ?r4 ?r5 ?r6)
   case r1 => exact HO4.out.1
   case r2 => exact HCB.out
   case r3 => unfold maxLen; omega
   case r4 => omega
   case r5 => have := HO4.out.2.size; simpa using this
   case r6 =>
    intro v5 w5 O5 K5
    have G5 := grown_trans_new HO4.out.2 K5 (fun x hx => (World.ownsRow.lt HO4.out.1 x hx).1)
    have HO5 : Hid (TOwns w5 w.heap.size v5 (us ++ [⟨0, s.size, [], 0⟩]) ∧ w.grownBy w5 none) := ⟨by
     show w5.ownsRow w.heap.size 63 4 v5 (us ++ [(⟨0, s.size, [], 0⟩ : Tk)]).length (flatT (us ++ [(⟨0, s.size, [], 0⟩ : Tk)]))
     rw [List.length_append, flatT_append]
     exact O5, G5⟩
    clear HO4 HCB O5 K5 G5
    go_wp2
    go_ret3
    exact ⟨_, rfl, HO5.out.1, HO5.out.2⟩

end Go.Proofs.YtghbbephhoniaaaGreatDoor
