/-
  The library's ParseUint, and package lex's number.
-/
import Derived.Test.YtbdmpjnlgdahmaaGreatDoorLotP15
import Derived.Test.YtbdmpjnlgdahmaaGreatDoorLotP16
namespace Go.Proofs.YtbdmpjnlgdahmaaGreatDoor
open Go.RowKit
set_option maxRecDepth 100000

theorem dig16 {c : UInt8} (h : wordB c = true) : digOk c.toNat = decide (digB c.toNat < 16) ∧ (digOk c.toNat = true → digV c.toNat = digB c.toNat) := by
  have hn := word_nat h
  generalize c.toNat = n at *
  unfold digB
  by_cases h1 : n ≤ 57
  · have := dig_dec (c := n) (by omega)
    rw [if_pos h1, this.1, decide_eq_true (by omega)]
    exact ⟨rfl, fun _ => this.2⟩
  · rw [if_neg h1]
    by_cases h2 : n ≤ 102
    · have := dig_let (c := n) (by omega)
      rw [this.1, decide_eq_true (by omega)]
      exact ⟨rfl, fun _ => this.2⟩
    · have := dig_no (c := n) (by omega) (by omega)
      rw [this.1, decide_eq_false (by omega)]
      exact ⟨rfl, fun h => by cases h⟩
theorem dig10 {c : UInt8} (h : wordB c = true) : isDig c = decide (digB c.toNat < 10) ∧ (isDig c = true → c.toNat - 48 = digB c.toNat) := by
  have hn := word_nat h
  unfold isDig digB
  generalize c.toNat = n at *
  by_cases h1 : n ≤ 57
  · rw [if_pos h1, decide_eq_true h1, decide_eq_true (show 48 ≤ n by omega), decide_eq_true (show n - 48 < 10 by omega)]
    exact ⟨rfl, fun _ => rfl⟩
  · rw [if_neg h1, decide_eq_false h1, decide_eq_false (show ¬ n - 87 < 10 by omega)]
    simp
theorem hex_pU : ∀ (l : List UInt8) (v : Nat), (∀ c ∈ l, wordB c = true) → hexL v l = pU 16 v l
  | [], _, _ => rfl
  | c :: r, v, h => by
    have hd := dig16 (h c (List.mem_cons_self ..))
    rw [hexL, pU]
    cases ho : digOk c.toNat with
    | false =>
      rw [if_neg (by simp), if_neg (by have := hd.1; rw [ho] at this; simpa using this.symm)]
    | true =>
      have e := hd.2 ho
      have hlt : digB c.toNat < 16 := by have := hd.1; rw [ho] at this; simpa using this.symm
      rw [if_pos rfl, if_pos hlt, e, Nat.mul_comm 16 v]
      split
      · rfl
      · exact hex_pU r _ (fun x hx => h x (List.mem_cons_of_mem _ hx))
theorem dec_pU : ∀ (l : List UInt8) (v : Nat), (∀ c ∈ l, wordB c = true) → numFrom 4294967295 v l = pU 10 v l
  | [], _, _ => rfl
  | c :: r, v, h => by
    have hd := dig10 (h c (List.mem_cons_self ..))
    rw [numFrom, pU]
    cases ho : isDig c with
    | false =>
      rw [if_neg (by simp), if_neg (by have := hd.1; rw [ho] at this; simpa using this.symm)]
    | true =>
      have e := hd.2 ho
      have hlt : digB c.toNat < 10 := by have := hd.1; rw [ho] at this; simpa using this.symm
      rw [if_pos rfl, if_pos hlt, e, Nat.mul_comm 10 v]
      split
      · rfl
      · exact dec_pU r _ (fun x hx => h x (List.mem_cons_of_mem _ hx))

/-- What a text in a base is: nothing, if there is none. -/
def numB (b : Nat) (l : List UInt8) : Option Nat := if l = [] then none else pU b 0 l
theorem num_hex {s : List UInt8} (h : Lib.hasPrefix s [48, 120] = true) (hw : ∀ c ∈ s, wordB c = true) : numV s = numB 16 (s.drop 2) := by
  have hp := List.isPrefixOf_iff_prefix.1 (show List.isPrefixOf [48, 120] s = true from h)
  obtain ⟨r, rfl⟩ := hp
  show numV (48 :: 120 :: r) = numB 16 r
  cases r with
  | nil => decide
  | cons c r =>
    unfold numV numB
    rw [if_pos ⟨by simp, rfl, rfl⟩, if_neg (by simp)]
    exact hex_pU _ _ (fun x hx => hw x (List.mem_cons_of_mem _ (List.mem_cons_of_mem _ hx)))
theorem num_dec {s : List UInt8} (h : Lib.hasPrefix s [48, 120] = false) (hw : ∀ c ∈ s, wordB c = true) (hne : s ≠ []) : numV s = if s.head? = some 48 ∧ s ≠ [48] then none else numB 10 s := by
  have h1 : numV s = numberV 4294967295 s := by
    unfold numV
    rw [if_neg]
    rintro ⟨h2, h3, h4⟩
    match s, h2, h3, h4 with
    | a :: b :: r, _, h3, h4 =>
      simp at h3 h4
      subst h3 h4
      exact absurd h (by show ¬ List.isPrefixOf [48, 120] (48 :: 120 :: r) = false; simp [List.isPrefixOf])
  rw [h1, numberV, numB, if_neg hne, dec_pU s 0 hw]
  match s, hne with
  | [c], _ =>
    by_cases hc : c = 48
    · subst hc; simp
    · simp [hc]
  | a :: b :: r, _ =>
    by_cases ha : a = 48
    · subst ha; simp
    · simp [ha]

/-- What ParseUint leaves. -/
def NumQ (r : Option Nat) (e : Ending) : Prop := ∃ (n : Int) (er : Value), e = .returned (.tuple #[.int .u64 n, er]) ∧ ((r = none ∧ ∃ ty v, er = .iface ty v) ∨ (∃ m : Nat, r = some m ∧ n = (m : Int) ∧ er = .nilIface))

theorem iparse_any (b : Nat) (hb : b = 10 ∨ b = 16) (t : ByteArray) (hmax : t.size ≤ 140737488355328) (ht : ∀ c ∈ sl t, wordB c = true) (w : World) :
    Calls Tryz.prog 93 #[.string t, .int .i64 (b : Int), .int .i64 32] w fun e w' => NumP (numB b (sl t)) e ∧ w.grownBy w' none := by
  by_cases hz : t.size = 0
  · have h0 : t = ⟨#[]⟩ := by
      have : sl t = [] := List.length_eq_zero_iff.1 (by rw [sl_len]; exact hz)
      exact Value.string.inj (by rw [str_sl, this])
    subst h0
    refine (iparse0_any b w).mono ?_
    rintro e w' ⟨h, rfl⟩
    exact ⟨h, World.grownBy.refl _ _⟩
  · have hne : sl t ≠ [] := fun h => hz (by rw [← sl_len, h]; rfl)
    rw [numB, if_neg hne]
    rcases hb with rfl | rfl
    · exact iparse10_any t hz hmax ht w
    · exact iparse16_any t hz hmax ht w

set_option maxHeartbeats 2000000 in
theorem parse_any (b : Nat) (hb : b = 10 ∨ b = 16) (t : ByteArray) (hmax : t.size ≤ 140737488355328) (ht : ∀ c ∈ sl t, wordB c = true) (w : World) (T : Tab w) :
    Calls Tryz.prog 73 #[.string t, .int .i64 (b : Int), .int .i64 32] w fun e w' => NumQ (numB b (sl t)) e ∧ w.grownBy w' none := by
  have C := iparse_any b hb t hmax ht w
  have HT : Hid (Tab w) := T
  generalize numB b (sl t) = r at *
  clear ht hb T
  go_enter Tryz.func73, Tryz.ntmps73
  go_wp2_with fail
  refine C.mono ?_
  rintro e w1 ⟨⟨n, er, rfl, h⟩, K1⟩
  clear C
  rcases h with ⟨rfl, hr⟩ | ⟨m, rfl, rfl, rfl⟩
  · obtain ⟨-, ⟨t1, v1, h1⟩, t2, v2, h2⟩ := HT.out.grown K1
    rcases hr with rfl | rfl
    · have C2 := Tryz.strconv_toError_range ⟨#[80, 97, 114, 115, 101, 85, 105, 110, 116]⟩ t (b : Int) 32 _ w1 (by omega) h2 (.inr ⟨_, _, rfl⟩)
      clear h1 h2 HT
      go_wp2_with fail
      refine C2.mono ?_
      rintro e w2 ⟨N, rfl, -, -, B2⟩
      clear C2
      go_wp2
      go_ret2
      exact ⟨⟨_, _, rfl, .inl ⟨rfl, _, _, rfl⟩⟩, grown_trans K1 (below_grown B2)⟩
    · have C2 := Tryz.strconv_toError_syntax ⟨#[80, 97, 114, 115, 101, 85, 105, 110, 116]⟩ t (b : Int) 32 _ w1 (by omega) h1 (.inr ⟨_, _, rfl⟩)
      clear h1 h2 HT
      go_wp2_with fail
      refine C2.mono ?_
      rintro e w2 ⟨N, rfl, -, -, B2⟩
      clear C2
      go_wp2
      go_ret2
      exact ⟨⟨_, _, rfl, .inl ⟨rfl, _, _, rfl⟩⟩, grown_trans K1 (below_grown B2)⟩
  · clear HT
    go_wp2
    go_ret2
    exact ⟨⟨_, _, rfl, .inr ⟨m, rfl, rfl, rfl⟩⟩, K1⟩

/-- What number tells. -/
def nmV (s : List UInt8) : Except Int (Nat × List UInt8 × Nat) := match numV s with
  | none => .error 102
  | some n => .ok (1, s, n)

set_option maxRecDepth 100000 in
set_option maxHeartbeats 4000000 in
theorem number_any (s : ByteArray) (hmax : s.size ≤ 140737488355328) (hne : 0 < s.size) (hw : ∀ c ∈ sl s, wordB c = true) (w : World) (T : Tab w) :
    Calls Tryz.prog 51 #[.string s] w fun e w' => e = .returned (.tuple #[.agg (tokA 0 (nmV (sl s))), .int .i64 (tokE (nmV (sl s)))]) ∧ w.grownBy w' none := by
  have RA := VAt.alloc w 42 (tkA 0 0 [] 0)
  have G0 := World.grownBy_alloc w (.cells (tkA 0 0 [] 0) 42) none
  have C1 := Tryz.strings_CutPrefix s ⟨#[48, 120]⟩
  rw [show (⟨#[48, 120]⟩ : ByteArray).data.toList = [48, 120] from rfl] at C1
  have hne' : sl s ≠ [] := fun h => by rw [← sl_len, h] at hne; exact absurd hne (by decide)
  have hsl : s.data.toList = sl s := rfl
  rw [hsl] at C1
  cases hp : Lib.hasPrefix (sl s) [48, 120] with
  | true =>
    rw [hp, Lib.trimPrefix, if_pos hp] at C1
    have hn := num_hex hp hw
    have hd : (sl s).drop ([48, 120] : List UInt8).length = (sl s).drop 2 := rfl
    rw [hd] at C1
    obtain ⟨D, hD⟩ : ∃ D : ByteArray, ⟨((sl s).drop 2).toArray⟩ = D := ⟨_, rfl⟩
    have hDl : sl D = (sl s).drop 2 := by rw [← hD]; rfl
    rw [hD] at C1
    have hDs : D.size ≤ 140737488355328 := by rw [← sl_len, hDl, List.length_drop, sl_len]; omega
    have CP := parse_any 16 (.inr rfl) D hDs (fun c hc => hw c (List.mem_of_mem_drop (by rw [← hDl]; exact hc)))
    rw [hDl, ← hn] at CP
    have HCP : Hid _ := CP
    have HT : Hid (Tab w) := T
    clear hD hDl hDs hn hd hp hsl hne' hw T CP
    go_enter Tryz.func51, Tryz.ntmps51
    go_upto_region 1 with fail
    rw [show (w.alloc (.cells #[.int .i64 0, .int .i64 0, .string ⟨#[]⟩, .int .u32 0] 42)) = w.alloc (.cells (tkA 0 0 [] 0) 42) from rfl]
    generalize w.alloc (.cells (tkA 0 0 [] 0) 42) = w1 at *
    obtain ⟨R, hR⟩ : ∃ R, w.heap.size = R := ⟨_, rfl⟩
    have HR : Hid (w.heap.size ≤ R) := by show w.heap.size ≤ R; omega
    rw [hR] at RA ⊢
    clear hR
    go_wp2_with fail
    refine (C1 _).mono ?_
    rintro e w2 ⟨rfl, rfl⟩
    clear C1
    have CP := HCP.out _ (HT.out.grown G0)
    clear HCP
    go_wp2_with fail
    refine CP.mono ?_
    rintro e w3 ⟨⟨n, er, rfl, h⟩, K3⟩
    have RA3 := RA.kept K3
    have G3 := grown_trans G0 K3
    clear CP RA G0 K3
    rcases h with ⟨hr, ty, v, rfl⟩ | ⟨m, hr, rfl, rfl⟩
    · have HX : Hid (nmV (sl s) = .error 102) := by show nmV _ = _; rw [nmV, hr]
      clear hr
      go_wp2_with (refine wpList_store_row rfl 42 (.tmp 2) (.tmp 34) rfl R (tkA 0 0 [] 0) rfl rfl 42 _ RA3 size42 rfl (by simp [tkA, Value.oneCell']) ?_)
      refine bodyPost_ret (ret_row rfl _ _ R (tkA 0 0 [] 0) _ rfl (RA3.setRow _) Tryz.underlying42 rfl size42) rfl ?_
      exact ⟨by rw [HX.out]; rfl, vgrown_setRow G3 _ _ (.inr HR.out)⟩
    · have HX : Hid (nmV (sl s) = .ok (1, sl s, m)) := by show nmV _ = _; rw [nmV, hr]
      have hm := numV_le hr
      have hwm : IntKind.u32.wrap (m : Int) = (m : Int) := by rw [IntKind.wrap_u32]; omega
      clear hr
      go_wp2_with (refine wpList_store_row rfl 42 (.tmp 2) (.tmp 38) rfl R (tkA 1 0 (sl s) m) rfl rfl 42 _ RA3 size42 rfl (by simp [tkA, Value.oneCell']) ?_)
      refine bodyPost_ret (ret_row rfl _ _ R (tkA 1 0 (sl s) m) _ rfl (RA3.setRow _) Tryz.underlying42 rfl size42) rfl ?_
      exact ⟨by rw [HX.out]; rfl, vgrown_setRow G3 _ _ (.inr HR.out)⟩
  | false =>
    rw [hp, Lib.trimPrefix, if_neg (by rw [hp]; simp)] at C1
    rw [show (⟨(sl s).toArray⟩ : ByteArray) = s from by cases s; simp [sl]] at C1
    have hn := num_dec hp hw hne'
    have h0 : (sl s).head? = some s[0] := by
      have := sl_drop s 0 hne
      rw [List.drop_zero] at this
      rw [this]
      rfl
    have CP := parse_any 10 (.inl rfl) s hmax hw
    have HT : Hid (Tab w) := T
    have hzz : (s.toList == [48]) = decide (sl s = [48]) := by
      rw [ByteArray.toList_eq]
      show (sl s == [48]) = _
      by_cases h : sl s = [48]
      · rw [decide_eq_true h, h]; rfl
      · rw [decide_eq_false h, beq_eq_false_iff_ne]; exact h
    have hni : (0 : Int) < (s.size : Int) := by omega
    by_cases hc : s[0] = 48 ∧ sl s ≠ [48]
    · rw [if_pos ⟨by rw [h0, hc.1], hc.2⟩] at hn
      have HX : Hid (nmV (sl s) = .error 102) := by show nmV _ = _; rw [nmV, hn]
      have c0 : s[0].toNat = 48 := by rw [hc.1]; rfl
      have hz : (s.toList == [48]) = false := by rw [hzz, decide_eq_false hc.2]
      clear hn h0 hc hzz hp hsl hne' hw T CP HT
      go_enter Tryz.func51, Tryz.ntmps51
      go_upto_region 1 with fail
      rw [show (w.alloc (.cells #[.int .i64 0, .int .i64 0, .string ⟨#[]⟩, .int .u32 0] 42)) = w.alloc (.cells (tkA 0 0 [] 0) 42) from rfl]
      generalize w.alloc (.cells (tkA 0 0 [] 0) 42) = w1 at *
      obtain ⟨R, hR⟩ : ∃ R, w.heap.size = R := ⟨_, rfl⟩
      have HR : Hid (w.heap.size ≤ R) := by show w.heap.size ≤ R; omega
      rw [hR] at RA ⊢
      clear hR
      go_wp2_with fail
      refine (C1 _).mono ?_
      rintro e w2 ⟨rfl, rfl⟩
      clear C1
      go_wp2_with (refine wpList_store_row rfl 42 (.tmp 2) (.tmp 25) rfl R (tkA 0 0 [] 0) rfl rfl 42 _ RA size42 rfl (by simp [tkA, Value.oneCell']) ?_)
      refine bodyPost_ret (ret_row rfl _ _ R (tkA 0 0 [] 0) _ rfl (RA.setRow _) Tryz.underlying42 rfl size42) rfl ?_
      exact ⟨by rw [HX.out]; rfl, vgrown_setRow G0 _ _ (.inr HR.out)⟩
    · have hn2 : numV (sl s) = numB 10 (sl s) := by
        rw [hn, if_neg]
        rintro ⟨h1, h2⟩
        rw [h0] at h1
        exact hc ⟨Option.some.inj h1, h2⟩
      rw [← hn2] at CP
      have HCP : Hid _ := CP
      by_cases h48 : s[0] = 48
      · have hs48 : sl s = [48] := Decidable.byContradiction fun h => hc ⟨h48, h⟩
        have c0 : s[0].toNat = 48 := by rw [h48]; rfl
        have hz : (s.toList == [48]) = true := by rw [hzz, decide_eq_true hs48]
        clear hn hn2 h0 hc hzz hp hsl hne' hw T CP h48 hs48
        go_enter Tryz.func51, Tryz.ntmps51
        go_upto_region 1 with fail
        rw [show (w.alloc (.cells #[.int .i64 0, .int .i64 0, .string ⟨#[]⟩, .int .u32 0] 42)) = w.alloc (.cells (tkA 0 0 [] 0) 42) from rfl]
        generalize w.alloc (.cells (tkA 0 0 [] 0) 42) = w1 at *
        obtain ⟨R, hR⟩ : ∃ R, w.heap.size = R := ⟨_, rfl⟩
        have HR : Hid (w.heap.size ≤ R) := by show w.heap.size ≤ R; omega
        rw [hR] at RA ⊢
        clear hR
        go_wp2_with fail
        refine (C1 _).mono ?_
        rintro e w2 ⟨rfl, rfl⟩
        clear C1
        have CP := HCP.out _ (HT.out.grown G0)
        clear HCP
        go_wp2_with fail
        refine CP.mono ?_
        rintro e w3 ⟨⟨n, er, rfl, h⟩, K3⟩
        have RA3 := RA.kept K3
        have G3 := grown_trans G0 K3
        clear CP RA G0 K3
        rcases h with ⟨hr, ty, v, rfl⟩ | ⟨m, hr, rfl, rfl⟩
        · have HX : Hid (nmV (sl s) = .error 102) := by show nmV _ = _; rw [nmV, hr]
          clear hr
          go_wp2_with (refine wpList_store_row rfl 42 (.tmp 2) (.tmp 34) rfl R (tkA 0 0 [] 0) rfl rfl 42 _ RA3 size42 rfl (by simp [tkA, Value.oneCell']) ?_)
          refine bodyPost_ret (ret_row rfl _ _ R (tkA 0 0 [] 0) _ rfl (RA3.setRow _) Tryz.underlying42 rfl size42) rfl ?_
          exact ⟨by rw [HX.out]; rfl, vgrown_setRow G3 _ _ (.inr HR.out)⟩
        · have HX : Hid (nmV (sl s) = .ok (1, sl s, m)) := by show nmV _ = _; rw [nmV, hr]
          have hm := numV_le hr
          have hwm : IntKind.u32.wrap (m : Int) = (m : Int) := by rw [IntKind.wrap_u32]; omega
          clear hr
          go_wp2_with (refine wpList_store_row rfl 42 (.tmp 2) (.tmp 38) rfl R (tkA 1 0 (sl s) m) rfl rfl 42 _ RA3 size42 rfl (by simp [tkA, Value.oneCell']) ?_)
          refine bodyPost_ret (ret_row rfl _ _ R (tkA 1 0 (sl s) m) _ rfl (RA3.setRow _) Tryz.underlying42 rfl size42) rfl ?_
          exact ⟨by rw [HX.out]; rfl, vgrown_setRow G3 _ _ (.inr HR.out)⟩
      · have c0 : ((s[0].toNat : Int) == 48) = false := by
          rw [beq_eq_false_iff_ne]
          intro e
          exact h48 (UInt8.toNat_inj.1 (by simpa using (by omega : s[0].toNat = 48)))
        clear hn hn2 h0 hc hzz hp hsl hne' hw T CP h48
        go_enter Tryz.func51, Tryz.ntmps51
        go_upto_region 1 with fail
        rw [show (w.alloc (.cells #[.int .i64 0, .int .i64 0, .string ⟨#[]⟩, .int .u32 0] 42)) = w.alloc (.cells (tkA 0 0 [] 0) 42) from rfl]
        generalize w.alloc (.cells (tkA 0 0 [] 0) 42) = w1 at *
        obtain ⟨R, hR⟩ : ∃ R, w.heap.size = R := ⟨_, rfl⟩
        have HR : Hid (w.heap.size ≤ R) := by show w.heap.size ≤ R; omega
        rw [hR] at RA ⊢
        clear hR
        go_wp2_with fail
        refine (C1 _).mono ?_
        rintro e w2 ⟨rfl, rfl⟩
        clear C1
        have CP := HCP.out _ (HT.out.grown G0)
        clear HCP
        go_wp2_with fail
        refine CP.mono ?_
        rintro e w3 ⟨⟨n, er, rfl, h⟩, K3⟩
        have RA3 := RA.kept K3
        have G3 := grown_trans G0 K3
        clear CP RA G0 K3
        rcases h with ⟨hr, ty, v, rfl⟩ | ⟨m, hr, rfl, rfl⟩
        · have HX : Hid (nmV (sl s) = .error 102) := by show nmV _ = _; rw [nmV, hr]
          clear hr
          go_wp2_with (refine wpList_store_row rfl 42 (.tmp 2) (.tmp 34) rfl R (tkA 0 0 [] 0) rfl rfl 42 _ RA3 size42 rfl (by simp [tkA, Value.oneCell']) ?_)
          refine bodyPost_ret (ret_row rfl _ _ R (tkA 0 0 [] 0) _ rfl (RA3.setRow _) Tryz.underlying42 rfl size42) rfl ?_
          exact ⟨by rw [HX.out]; rfl, vgrown_setRow G3 _ _ (.inr HR.out)⟩
        · have HX : Hid (nmV (sl s) = .ok (1, sl s, m)) := by show nmV _ = _; rw [nmV, hr]
          have hm := numV_le hr
          have hwm : IntKind.u32.wrap (m : Int) = (m : Int) := by rw [IntKind.wrap_u32]; omega
          clear hr
          go_wp2_with (refine wpList_store_row rfl 42 (.tmp 2) (.tmp 38) rfl R (tkA 1 0 (sl s) m) rfl rfl 42 _ RA3 size42 rfl (by simp [tkA, Value.oneCell']) ?_)
          refine bodyPost_ret (ret_row rfl _ _ R (tkA 1 0 (sl s) m) _ rfl (RA3.setRow _) Tryz.underlying42 rfl size42) rfl ?_
          exact ⟨by rw [HX.out]; rfl, vgrown_setRow G3 _ _ (.inr HR.out)⟩

end Go.Proofs.YtbdmpjnlgdahmaaGreatDoor
