/-
  For every two words riddlelaw10.LexNumbers returns true and leaves what was there as it was: no condition of ours.
-/
import Derived.Test.YthmfpodibgheiaaDoorLexP
import Derived.Test.YthmfpodibgheiaaDoorAwake10
import Derived.Test.YthmfpodibgheiaaDoorOpen
import Derived.Test.YthmfpodibgheiaaDoorLkL
import Derived.BigQuiet
namespace Go.Proofs.YthmfpodibgheiaaDoor
open Go.ChangeShapes Go.WideShapes Go.ChangeAt Go.RowKit
set_option maxRecDepth 100000
namespace lexNumbers

theorem sl_cat (a b : ByteArray) : sl (a ++ b) = sl a ++ sl b := by simp [sl]

/-- What the law asks of a number that is refused. -/
def Bad (S : ByteArray) : Prop := S.size ≤ 100 ∧ ∀ W : World, Tab W → Calls Tryd.prog 10 #[.string (⟨#[105, 112, 32, 91]⟩ ++ S)] W fun e w' => ∃ ao ca, e = .returned (.tuple #[.slice ao 0 ca, .int .i64 4, .int .i64 102]) ∧ W.grownBy w' none
theorem bad_any {b : List UInt8} {S : ByteArray} (hS : sl S = b) (hw : ∀ c ∈ b, wordB c = true) (hh : b.head?.any isDig = true) (hn : numV b = none) (hl : b.length ≤ 100) : Bad S := by
  refine ⟨by rw [← sl_len, hS]; exact hl, fun W TW => ?_⟩
  have q := lex_any (⟨#[105, 112, 32, 91]⟩ ++ S) (by rw [← sl_len, sl_cat, hS, List.length_append]; show 4 + _ ≤ _; omega) W TW
  rw [show sl (⟨#[105, 112, 32, 91]⟩ ++ S) = 105 :: 112 :: 32 :: 91 :: b from by rw [sl_cat, hS]; rfl, lex_bad hw hh hn hl] at q
  simp only [lexP, lexE, lexT] at q
  refine q.mono ?_
  rintro e w' ⟨v, rfl, O, K⟩
  obtain ⟨ao, ca, rfl, -⟩ := O.items
  exact ⟨ao, ca, rfl, K⟩
theorem dig_word {c : UInt8} (h : isDig c = true) : wordB c = true := by unfold wordB; rw [h]; rfl
theorem head_app {a r : List UInt8} (h : a.head?.any isDig = true) : (a ++ r).head?.any isDig = true := by
  cases a with
  | nil => simp at h
  | cons => exact h
theorem dec_head (n : Nat) (h : n < 10 ^ 20) : (dec n).head?.any isDig = true := by
  have h1 := dec_ne n h
  have h2 := dec_dig n h
  cases hd : dec n with
  | nil => exact absurd hd h1
  | cons a r =>
    rw [hd] at h2
    show isDig a = true
    exact h2 a (by simp)
theorem hx_words {n : Nat} (h : n < 16 ^ 16) : ∀ c ∈ 48 :: 120 :: hx n, wordB c = true := by
  intro c hc
  rcases List.mem_cons.1 hc with rfl | hc
  · decide
  · rcases List.mem_cons.1 hc with rfl | hc
    · decide
    · exact (hx_word n h c hc).1
theorem app_words {a : List UInt8} {x : UInt8} (h : ∀ c ∈ a, wordB c = true) (hx : wordB x = true) : ∀ c ∈ a ++ [x], wordB c = true := by
  intro c hc
  rcases List.mem_append.1 hc with hc | hc
  · exact h c hc
  · simp only [List.mem_singleton] at hc
    subst hc
    exact hx

/-- The six texts that are refused. -/
theorem six {n m : Nat} (hn : n ≤ 4294967295) (hm : m ≤ 4294967295) {D X B Y : ByteArray} (hD : sl D = dec n) (hX : sl X = 48 :: 120 :: hx n) (hB : sl B = dec (4294967296 + m)) (hY : sl Y = 48 :: 120 :: hx (4294967296 + m)) :
    Bad B ∧ Bad Y ∧ Bad (⟨#[48]⟩ ++ D) ∧ Bad (D ++ ⟨#[107]⟩) ∧ Bad (X ++ ⟨#[103]⟩) ∧ Bad ⟨#[48, 120]⟩ := by
  have l1 := dec_len n
  have l2 := hx_len n
  have l3 := dec_len (4294967296 + m)
  have l4 := hx_len (4294967296 + m)
  have d1 := dec_dig n (by omega)
  have d3 := dec_dig (4294967296 + m) (by omega)
  refine ⟨bad_any hB (fun c hc => dig_word (d3 c hc)) (dec_head _ (by omega)) (numV_big _ (by omega) (by omega)) (by omega),
    bad_any hY (hx_words (by omega)) rfl (numV_hxBig _ (by omega) (by omega)) (by simp; omega),
    bad_any (b := 48 :: dec n) (by rw [sl_cat, hD]; rfl) ?_ rfl (numV_nought n hn) (by simp; omega),
    bad_any (b := dec n ++ [107]) (by rw [sl_cat, hD]; rfl) (app_words (fun c hc => dig_word (d1 c hc)) (by decide)) (head_app (dec_head _ (by omega))) (numV_decK n hn) (by simp; omega),
    bad_any (b := 48 :: 120 :: (hx n ++ [103])) (by rw [sl_cat, hX]; rfl) (by show ∀ c ∈ (48 :: 120 :: hx n) ++ [103], wordB c = true; exact app_words (hx_words (by omega)) (by decide)) rfl (numV_hxG n) (by simp; omega),
    bad_any (b := [48, 120]) rfl (by decide) rfl numV_0x (by simp)⟩
  intro c hc
  rcases List.mem_cons.1 hc with rfl | hc
  · decide
  · exact dig_word (d1 c hc)

theorem two_any {n : Nat} (hn : n ≤ 4294967295) {D X : ByteArray} (hD : sl D = dec n) (hX : sl X = 48 :: 120 :: hx n) (W : World) (TW : Tab W) :
    Calls Tryd.prog 10 #[.string (⟨#[40]⟩ ++ D ++ ⟨#[32]⟩ ++ X)] W fun e w' => ∃ g cap, e = .returned (.tuple #[.slice (some ⟨g, 0, none⟩) 4 cap, .int .i64 0, .int .i64 0]) ∧
      w'.cell? ⟨g, 4, none⟩ = some (.int .i64 1) ∧ w'.cell? ⟨g, 7, none⟩ = some (.int .u32 (n : Int)) ∧ w'.cell? ⟨g, 8, none⟩ = some (.int .i64 1) ∧ w'.cell? ⟨g, 11, none⟩ = some (.int .u32 (n : Int)) ∧ W.grownBy w' none := by
  have l1 := dec_len n
  have l2 := hx_len n
  have d1 := dec_dig n (by omega)
  have e : sl (⟨#[40]⟩ ++ D ++ ⟨#[32]⟩ ++ X) = 40 :: (dec n ++ 32 :: (48 :: 120 :: hx n)) := by
    rw [sl_cat, sl_cat, sl_cat, hD, hX]
    show ([40] ++ dec n ++ [32]) ++ _ = _
    simp
  have q := lex_any (⟨#[40]⟩ ++ D ++ ⟨#[32]⟩ ++ X) (by rw [← sl_len, e]; simp; omega) W TW
  rw [e, lex_two (fun c hc => dig_word (d1 c hc)) (dec_head _ (by omega)) (numV_dec n hn) (hx_words (by omega)) rfl (numV_hx n hn) (by simp; omega)] at q
  simp only [lexP, lexE, lexT] at q
  refine q.mono ?_
  rintro e w' ⟨v, rfl, O, K⟩
  obtain ⟨g, cap, rfl, hc⟩ := O.toks (by simp)
  have c1 := hc 1 (by simp)
  have c2 := hc 2 (by simp)
  exact ⟨g, cap, rfl, c1.1, c1.2.2.2, c2.1, c2.2.2.2, K⟩

set_option maxRecDepth 100000 in
set_option maxHeartbeats 8000000 in
theorem walk (n m : Nat) (w : World) (hn : n ≤ 4294967295) (hm : m ≤ 4294967295) (T : Tab w) :
    Calls Tryd.prog 7 #[.int .u32 (n : Int), .int .u32 (m : Int)] w fun e w' => e = .returned (.bool true) ∧ w.grownBy w' none := by
  have HT : Hid (Tab w) := T
  clear T
  have HD : Hid (∀ W : World, Calls Tryd.prog 15 #[.int .u64 (n : Int)] W fun e w' => e = .returned (str (dec n)) ∧ W.grownBy w' none) := fun W => lawdec_any n W (by omega)
  have HX : Hid (∀ W : World, Calls Tryd.prog 16 #[.int .u64 (n : Int)] W fun e w' => e = .returned (str (48 :: 120 :: hx n)) ∧ W.grownBy w' none) := fun W => lawhex_any n W (by omega)
  have HB : Hid (∀ W : World, Calls Tryd.prog 15 #[.int .u64 (4294967296 + (m : Int))] W fun e w' => e = .returned (str (dec (4294967296 + m))) ∧ W.grownBy w' none) := fun W => by
    have := lawdec_any (4294967296 + m) W (by omega)
    rw [Int.natCast_add] at this
    exact this
  have HY : Hid (∀ W : World, Calls Tryd.prog 16 #[.int .u64 (4294967296 + (m : Int))] W fun e w' => e = .returned (str (48 :: 120 :: hx (4294967296 + m))) ∧ W.grownBy w' none) := fun W => by
    have := lawhex_any (4294967296 + m) W (by omega)
    rw [Int.natCast_add] at this
    exact this
  obtain ⟨D, hD⟩ : ∃ D : ByteArray, ⟨(dec n).toArray⟩ = D := ⟨_, rfl⟩
  obtain ⟨X, hX⟩ : ∃ X : ByteArray, ⟨(48 :: 120 :: hx n).toArray⟩ = X := ⟨_, rfl⟩
  obtain ⟨B, hB⟩ : ∃ B : ByteArray, ⟨(dec (4294967296 + m)).toArray⟩ = B := ⟨_, rfl⟩
  obtain ⟨Y, hY⟩ : ∃ Y : ByteArray, ⟨(48 :: 120 :: hx (4294967296 + m)).toArray⟩ = Y := ⟨_, rfl⟩
  rw [show str (dec n) = .string D from congrArg Value.string hD] at HD
  rw [show str (48 :: 120 :: hx n) = .string X from congrArg Value.string hX] at HX
  rw [show str (dec (4294967296 + m)) = .string B from congrArg Value.string hB] at HB
  rw [show str (48 :: 120 :: hx (4294967296 + m)) = .string Y from congrArg Value.string hY] at HY
  have sD : sl D = dec n := by rw [← hD]; rfl
  have sX : sl X = 48 :: 120 :: hx n := by rw [← hX]; rfl
  have H6 := six hn hm sD sX (B := B) (Y := Y) (by rw [← hB]; rfl) (by rw [← hY]; rfl)
  have HH6 : Hid (Bad B ∧ Bad Y ∧ Bad (⟨#[48]⟩ ++ D) ∧ Bad (D ++ ⟨#[107]⟩) ∧ Bad (X ++ ⟨#[103]⟩) ∧ Bad ⟨#[48, 120]⟩) := H6
  have H2 : Hid (∀ W : World, Tab W → _) := two_any hn sD sX
  have zD : D.size ≤ 20 := by rw [← sl_len, sD]; exact dec_len n
  have zX : X.size ≤ 18 := by rw [← sl_len, sX]; have := hx_len n; simp; omega
  clear hD hX hB hY H6 sD sX
  go_enter Tryd.func7, Tryd.ntmps7
  go_wp2_with fail
  refine (HD.out _).mono ?_
  rintro e w1 ⟨rfl, K1⟩
  go_wp2_with fail
  refine (HX.out _).mono ?_
  rintro e w2 ⟨rfl, K2⟩
  go_wp2_with fail
  refine (H2.out _ (HT.out.grown (grown_trans K1 K2))).mono ?_
  rintro e w3 ⟨g, cap, rfl, c1, c2, c3, c4, K3⟩
  have HK : Hid (w.grownBy w3 none) := grown_trans (grown_trans K1 K2) K3
  clear K1 K2 K3 H2
  have hnn : ((n : Int) != (n : Int)) = false := by simp
  go_wp2_with fail
  clear c1 c2 c3 c4 hnn
  refine (HB.out _).mono ?_
  rintro e w4 ⟨rfl, K4⟩
  go_wp2_with fail
  refine (HY.out _).mono ?_
  rintro e w5 ⟨rfl, K5⟩
  go_wp2_with fail
  refine (HD.out _).mono ?_
  rintro e w6 ⟨rfl, K6⟩
  go_wp2_with fail
  refine (HD.out _).mono ?_
  rintro e w7 ⟨rfl, K7⟩
  go_wp2_with fail
  refine (HX.out _).mono ?_
  rintro e w8 ⟨rfl, K8⟩
  have HK8 : Hid (w.grownBy w8 none) := grown_trans (grown_trans (grown_trans (grown_trans (grown_trans HK.out K4) K5) K6) K7) K8
  clear K4 K5 K6 K7 K8 HK HB HY HD HX
  go_upto_region 7 with fail
  have HC : Hid (∀ i < 6, ∃ S, (w8.alloc (.cells #[.string B, .string Y, .string (⟨#[48]⟩ ++ D), .string (D ++ ⟨#[107]⟩), .string (X ++ ⟨#[103]⟩), .string ⟨#[48, 120]⟩] 9)).cell? ⟨w8.heap.size, i, none⟩ = some (.string S) ∧ Bad S) := by
    intro i hi
    have q := (cv_lit w8 9 [.string B, .string Y, .string (⟨#[48]⟩ ++ D), .string (D ++ ⟨#[107]⟩), .string (X ++ ⟨#[103]⟩), .string ⟨#[48, 120]⟩]).2 _ rfl i hi
    rw [Addr.add_lit, Nat.zero_add] at q
    obtain ⟨b1, b2, b3, b4, b5, b6⟩ := HH6.out
    match i, hi, q with
    | 0, _, q => exact ⟨_, q, b1⟩
    | 1, _, q => exact ⟨_, q, b2⟩
    | 2, _, q => exact ⟨_, q, b3⟩
    | 3, _, q => exact ⟨_, q, b4⟩
    | 4, _, q => exact ⟨_, q, b5⟩
    | 5, _, q => exact ⟨_, q, b6⟩
  have HKA : Hid (w.grownBy (w8.alloc (.cells #[.string B, .string Y, .string (⟨#[48]⟩ ++ D), .string (D ++ ⟨#[107]⟩), .string (X ++ ⟨#[103]⟩), .string ⟨#[48, 120]⟩] 9)) none) := grown_trans HK8.out (World.grownBy_alloc _ _ _)
  generalize (w8.alloc (.cells #[.string B, .string Y, .string (⟨#[48]⟩ ++ D), .string (D ++ ⟨#[107]⟩), .string (X ++ ⟨#[103]⟩), .string ⟨#[48, 120]⟩] 9)) = wb at *
  generalize w8.heap.size = G at *
  clear HK8 HH6
  go_loopw [10] (fun x wr => ∃ i : Nat, i ≤ 6 ∧ x = .int .i64 i ∧ Hid (wb.grownBy wr none)) (fun x _ => 6 - (intOf x).toNat)
  case atStart => exact ⟨0, by omega, rfl, World.grownBy.refl _ _⟩
  case round =>
    obtain ⟨i, hi, rfl, HW⟩ := hrel
    by_cases hlt : i < 6
    · obtain ⟨S, hS, hbad⟩ := HC.out i hlt
      have hcell := HW.out.cell hS (by simp)
      have HBD : Hid (Bad S) := hbad
      have hsz : S.size ≤ 100 := hbad.1
      have hil : (i : Int) < 6 := by omega
      have hi0 : (0 : Int) ≤ (i : Int) := by omega
      clear hS hbad HC
      go_wp2_with fail
      refine (HBD.out.2 _ (HT.out.grown (grown_trans HKA.out HW.out))).mono ?_
      rintro e w9 ⟨ao, ca, rfl, K9⟩
      have HW9 : Hid (wb.grownBy w9 none) := grown_trans HW.out K9
      clear K9 HW hcell HBD
      go_wp2
      go_roundw
      case rel => exact ⟨i + 1, by omega, by go_num, HW9⟩
      case measure => simp [intOf]; omega
    · obtain rfl : i = 6 := by omega
      have G := grown_trans HKA.out HW.out
      clear HC HW HKA
      go_wp2_with fail
      refine (awake10_any _ (HT.out.grown (by assumption))).mono ?_
      rintro e w9 ⟨rfl, K9⟩
      go_wp2
      go_ret
      exact ⟨rfl, grown_trans G K9⟩

set_option maxRecDepth 100000 in
theorem lifted (os : Os) (started : os.Started) (H : Type) (enc : TypeId × Value → H) (F : Stop.Interp) :
    ReturnsInHanded {} Tryd.checked os 7 .any ((OpenSpec.ofChange Rows.lexNumbersSpec).preRow enc Tryd.prog Tryd.f7 Rows.lexNumbersRow.domain false Rows.lexNumbersRow.laid) (((OpenSpec.ofChange Rows.lexNumbersSpec).at F).post enc Tryd.prog Tryd.f7 false true false false) := by
  have hx : DataW.whole enc Tryd.prog ((laidWorld os).forCall (fun _ _ => 0) ⟨#[], #[.int .u32 0, .int .u32 0], []⟩).memory Tryd.f7.params.toList Rows.lexNumbersSpec.vars false (#[.int .u32 0, .int .u32 0] : Array Value).toList 8 = some ([.lit (.int .u32 0), .lit (.int .u32 0)], [], []) := by kernel_rfl
  refine returnsInHanded_of_row (C := Tryd.checked) (s := (OpenSpec.ofChange Rows.lexNumbersSpec)) own started (by kernel_rfl) Tryd.func7
    (witness_row_atRef (enc := enc) (C := Tryd.checked) false (laidWorld os) #[.int .u32 0, .int .u32 0] (World.laidAll_os _ _ _) (by kernel_rfl) (by kernel_rfl) (by kernel_rfl)
      (OpenSpec.preRow_of_cond 8 hx (by kernel_rfl) (fun k hk => by cases hk) (by kernel_rfl) (laid_met os _))) ?_
  intro W base args ds gs before hval0 hW hcnd hcond hsz0 hL hsh _
  have hsz : (DataW.weightsEach Tryd.prog (Tryd.f7.params.toList ++ Rows.lexNumbersSpec.plain.varTypes Tryd.prog) (ds ++ gs)).all (· ≤ reachBytes) = true := hsz0
  have T : Tab W := laid_tab hL hsh
  have hval : ∀ (j : Nat) t v, Tryd.f7.params[j]? = some t → args[j]? = some v → Value.okWide Tryd.prog W .any base t v := hval0
  have hW' := hW
  obtain ⟨p, q, hA0, hV, rfl, hfz, hnd⟩ := hW
  have hA : DataW.TrodAll enc Tryd.prog W 0 (fun _ => true) true Tryd.f7.params.toList args.toList ds p := hA0
  rw [Tryd.params7] at hA hval hsz
  obtain ⟨v0, vs0, d0, ds0, p0, q0, hargs, rfl, rfl, h0, r0⟩ := trodAll_cons hA
  obtain ⟨v1, vs1, d1, ds1, p1, q1, rfl, rfl, rfl, h1, r1⟩ := trodAll_cons r0
  obtain ⟨rfl, rfl, rfl⟩ := trodAll_nil r1
  obtain rfl : args = #[v0, v1] := by cases args; simp_all
  obtain ⟨rfl, rfl⟩ := trodVars_none hV
  obtain ⟨y0, rfl, rfl, rfl, w0⟩ := open_int Tryd.underlying30 (hval 0 30 v0 rfl rfl) h0
  have bd0 := bounds_u32 w0
  obtain ⟨x0, rfl⟩ := Int.eq_ofNat_of_zero_le bd0.1
  have hv0 : x0 ≤ 4294967295 := by omega
  obtain ⟨y1, rfl, rfl, rfl, w1⟩ := open_int Tryd.underlying30 (hval 1 30 v1 rfl rfl) h1
  have bd1 := bounds_u32 w1
  obtain ⟨x1, rfl⟩ := Int.eq_ofNat_of_zero_le bd1.1
  have hv1 : x1 ≤ 4294967295 := by omega
  clear hA0 hval0
  refine (walk x0 x1 W hv0 hv1 T).mono fun e W' ⟨he, hg⟩ => ?_
  subst he
  have bel : Below W.heap.size W W' := (Below.refl _ _).grown hg (Nat.le_refl _) (by simp)
  exact ⟨_, rfl, _, _, _, [], _, [], hW', trodAll_mk1 (shut_bool Tryd.underlying4 _), (trodAll_cons_mk (shut_int Tryd.underlying30 w0) (trodAll_cons_mk (shut_int Tryd.underlying30 w1) trodAll_mk0)), rfl, bel.frame _, fun h => by cases h⟩

theorem over : Rows.LexNumbersSaid :=
  OpenClaim.holds_of_cond 7 Tryd.f7 rfl rfl rfl rfl rfl rfl rfl ⟨rfl, rfl, rfl, rfl, rfl⟩ rfl rfl rfl rfl rfl (by kernel_rfl) Tryd.func7 (by kernel_rfl)
    (of_decide_eq_true (by kernel_rfl)) (by unfold Func.isWrapper; first | (rw [if_pos (by decide +kernel)]; kernel_rfl) | (rw [if_neg (by decide +kernel)]; exact ⟨rfl, rfl⟩))
    (fun os started H enc _ F => by rw [OpenClaim.pre_eq_preRow]; exact lifted os started H enc F)

theorem plain (f : FuncId) (fn : Func) (hf : Tryd.pinned.checked.prog.funcNamed "riddle/riddlelaw10.LexNumbers" = some f) (hfn : Tryd.pinned.checked.prog.funcs[f]? = some fn) :
    true = Tryd.pinned.checked.prog.looks [] ∧ ∀ (j : Nat) t, fn.params[j]? = some t → Tryd.pinned.checked.prog.wantsStandIn t = false := by
  obtain rfl : f = 7 := Option.some.inj ((show Tryd.prog.funcNamed "riddle/riddlelaw10.LexNumbers" = some 7 by kernel_rfl).symm.trans hf) |>.symm
  obtain rfl : fn = Tryd.f7 := (Option.some.inj (Tryd.func7.symm.trans hfn)).symm
  refine ⟨by kernel_rfl, fun j t ht => ?_⟩
  rw [Tryd.params7] at ht
  have ht2 := Array.mem_of_getElem? ht
  simp only [List.mem_toArray, List.mem_cons, List.not_mem_nil, or_false] at ht2
  rcases ht2 with rfl | rfl
  · exact (show Tryd.prog.wantsStandIn 30 = false by kernel_rfl)
  · exact (show Tryd.prog.wantsStandIn 30 = false by kernel_rfl)

theorem card : Rows.LexNumbersCardSaid :=
  Claim7.holds_tied_plain_at .later [] _ _ _ _ over (fun _ h => by cases h) (by kernel_rfl) (fun _ h => by cases h) lexNumbers_row_tie rfl ⟨rfl, rfl⟩ (by kernel_rfl) rfl plain (by kernel_rfl)

end lexNumbers

theorem lexNumbers_holds : Rows.LexNumbersCardSaid := lexNumbers.card
#print axioms lexNumbers_holds

end Go.Proofs.YthmfpodibgheiaaDoor
