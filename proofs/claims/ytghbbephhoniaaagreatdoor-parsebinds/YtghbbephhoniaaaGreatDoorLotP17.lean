import Derived.Test.YtghbbephhoniaaaGreatDoorLotP16
import Derived.Test.YtghbbephhoniaaaGreatDoorLotP9
namespace Go.Proofs.YtghbbephhoniaaaGreatDoor
open Go.RowKit
set_option maxRecDepth 100000
def sgA : List (List UInt8) := [[124], [94], [38], [60, 60], [62, 62], [43], [45], [42], [47], [37]]
def rwA : List Int := [5, 6, 7, 8, 8, 9, 9, 10, 10, 10]
def opA : List Int := [7, 8, 6, 9, 10, 1, 2, 3, 4, 5]
def sg (i : Nat) : List UInt8 := sgA.getD i []
def rw11 (i : Nat) : Int := rwA.getD i 0
def op11 (i : Nat) : Int := opA.getD i 0
def eqN : Ng := ⟨6, 1, 0, 0, 0, 0, 0, zeros 16, 0⟩
def biT (x y a b c : Nat) : Tr :=
 if rw11 x < rw11 y then .two (akN (op11 x)) (.leaf (nmN a)) (.two (akN (op11 y)) (.leaf (nmN b)) (.leaf (nmN c)))
 else .two (akN (op11 y)) (.two (akN (op11 x)) (.leaf (nmN a)) (.leaf (nmN b))) (.leaf (nmN c))
def biE (x y a b c : Nat) : Tr := .two eqN (biT x y a b c) (.leaf lnN)
def biS (x y a b c : Nat) : List UInt8 := dec a ++ sg x ++ dec b ++ sg y ++ dec c ++ [61, 108, 101, 110]
theorem bi_sign : ∀ x : Fin 10, (∃ c t, sg x.val = c :: t ∧ sixB c = false ∧ quadB c = false ∧ wordB c = false ∧ isDig c = false ∧ letB c = false) ∧ signK (akN (op11 x.val)) = kS (sg x.val) ∧ rowG (akN (op11 x.val)) = rw11 x.val ∧ (1 ≤ op11 x.val ∧ op11 x.val ≤ 10) ∧ (5 ≤ rw11 x.val ∧ rw11 x.val ≤ 10) := by
 have key2 : ∀ x : Fin 10, signK (akN (op11 x.val)) = kS (sg x.val) ∧ rowG (akN (op11 x.val)) = rw11 x.val ∧ (1 ≤ op11 x.val ∧ op11 x.val ≤ 10) ∧ (5 ≤ rw11 x.val ∧ rw11 x.val ≤ 10) := by decide
 have key : ∀ x : Fin 10, ∃ c ∈ (sg x.val).head?, sixB c = false ∧ quadB c = false ∧ wordB c = false ∧ isDig c = false ∧ letB c = false := by
  intro x
  match x with
  | ⟨0, _⟩ => exact ⟨124, rfl, by decide⟩
  | ⟨1, _⟩ => exact ⟨94, rfl, by decide⟩
  | ⟨2, _⟩ => exact ⟨38, rfl, by decide⟩
  | ⟨3, _⟩ => exact ⟨60, rfl, by decide⟩
  | ⟨4, _⟩ => exact ⟨62, rfl, by decide⟩
  | ⟨5, _⟩ => exact ⟨43, rfl, by decide⟩
  | ⟨6, _⟩ => exact ⟨45, rfl, by decide⟩
  | ⟨7, _⟩ => exact ⟨42, rfl, by decide⟩
  | ⟨8, _⟩ => exact ⟨47, rfl, by decide⟩
  | ⟨9, _⟩ => exact ⟨37, rfl, by decide⟩
 intro x
 obtain ⟨c, hc, h⟩ := key x
 refine ⟨?_, key2 x⟩
 cases hs : sg x.val with
 | nil => rw [hs] at hc; cases hc
 | cons d t =>
  rw [hs] at hc
  have hc : d = c := by simpa using hc
  rw [hc]
  exact ⟨c, t, rfl, h⟩
theorem good_nm (a : Nat) : GoodN (nmN a) := ⟨by simp [formG, sameG, useG, mayG, nmN], rfl, rfl⟩
theorem good_ak {k : Int} (h : 1 ≤ k ∧ k ≤ 10) : GoodN (akN k) := ⟨form_ak h, rfl, rfl⟩
theorem good_ln : GoodN lnN := ⟨by kernel_rfl, rfl, rfl⟩
theorem good_eq : GoodN eqN := ⟨by kernel_rfl, rfl, rfl⟩
theorem bi_good {x y : Nat} (hx : x < 10) (hy : y < 10) (a b c : Nat) : (biE x y a b c).Good := by
 obtain ⟨-, -, -, h1, -⟩ := bi_sign ⟨x, hx⟩
 obtain ⟨-, -, -, h2, -⟩ := bi_sign ⟨y, hy⟩
 unfold biE biT
 split
 ·refine ⟨⟨rfl, ⟨rfl, rfl, rfl, rfl, rfl⟩, rfl⟩, fun z hz => ?_⟩
  simp only [Tr.flat, List.cons_append, List.nil_append, List.mem_cons, List.not_mem_nil, or_false] at hz
  rcases hz with rfl | rfl | rfl | rfl | rfl | rfl | rfl
  ·exact good_nm _
  ·exact good_nm _
  ·exact good_nm _
  ·exact good_ak h2
  ·exact good_ak h1
  ·exact good_ln
  ·exact good_eq
 ·refine ⟨⟨rfl, ⟨rfl, ⟨rfl, rfl, rfl⟩, rfl⟩, rfl⟩, fun z hz => ?_⟩
  simp only [Tr.flat, List.cons_append, List.nil_append, List.mem_cons, List.not_mem_nil, or_false] at hz
  rcases hz with rfl | rfl | rfl | rfl | rfl | rfl | rfl
  ·exact good_nm _
  ·exact good_nm _
  ·exact good_ak h1
  ·exact good_nm _
  ·exact good_ak h2
  ·exact good_ln
  ·exact good_eq
theorem want_no {row least : Int} (h : least ≤ row) : wantT false row least = false := by
 unfold wantT
 rw [decide_eq_false (show ¬ row < least by omega)]
 rfl
theorem bi_ky {x y : Nat} (hx : x < 10) (hy : y < 10) (a b c : Nat) : (biE x y a b c).ky false = [kN a, kS (sg x), kN b, kS (sg y), kN c, kS [61], kW wLen] ∧ ((biE x y a b c).txt false).2 = 0 := by
 obtain ⟨-, s1, r1, -, l1⟩ := bi_sign ⟨x, hx⟩
 obtain ⟨-, s2, r2, -, l2⟩ := bi_sign ⟨y, hy⟩
 simp only at s1 r1 l1 s2 r2 l2
 have hn : ∀ a, rowG (nmN a) = 12 := fun a => rfl
 have hl : rowG lnN = 12 := rfl
 have he : rowG eqN = 4 := rfl
 unfold biE biT
 split
 ·rename_i hlt
  simp only [Tr.ky, Tr.txt, Tr.root, hn, hl, he, r1, r2]
  rw [if_neg (show ¬ rw11 x = 4 by omega), if_neg (show ¬ rw11 y = 4 by omega), want_no (show rw11 x ≤ 12 by omega), want_no (show rw11 y ≤ 12 by omega), want_no (show rw11 y + 1 ≤ 12 by omega), want_no (show rw11 x + 1 ≤ rw11 y by omega), if_pos trivial, want_no (show (5 : Int) ≤ rw11 x by omega), want_no (show (4 : Int) + 1 ≤ 12 by omega), s1, s2]
  exact ⟨rfl, rfl⟩
 ·rename_i hlt
  simp only [Tr.ky, Tr.txt, Tr.root, hn, hl, he, r1, r2]
  rw [if_neg (show ¬ rw11 y = 4 by omega), if_neg (show ¬ rw11 x = 4 by omega), want_no (show rw11 x ≤ 12 by omega), want_no (show rw11 x + 1 ≤ 12 by omega), want_no (show rw11 y ≤ rw11 x by omega), want_no (show rw11 y + 1 ≤ 12 by omega), if_pos trivial, want_no (show (5 : Int) ≤ rw11 y by omega), want_no (show (4 : Int) + 1 ≤ 12 by omega), s1, s2]
  exact ⟨rfl, rfl⟩
def EndD (r : List UInt8) : Prop := ∃ b r', r = b :: r' ∧ sixB b = false ∧ quadB b = false ∧ wordB b = false
theorem lexs_decD {n : Nat} (h : n ≤ 4294967295) : LexS (dec n) [kN n] EndD := lexs_tok (k := kN n) fun r hr => by
 obtain ⟨b, r', rfl, b1, b2, b3⟩ := hr
 have h20 : n < 10 ^ 20 := by omega
 have hd := dec_dig n h20
 have hne := dec_ne n h20
 have ht := tok_dec h
 show tokV (dec n ++ b :: r') = .ok (1, dec n, n)
 generalize dec n = t at *
 have hb : ∀ p : UInt8 → Bool, p b = false → (t ++ b :: r').takeWhile p = t.takeWhile p := fun p hp => takeWhile_end p t _ (.inr ⟨b, r', rfl, hp⟩)
 have hh : t.head?.any isDig = true := by
  cases t with
  | nil => exact absurd rfl hne
  | cons c r => exact hd c (List.mem_cons_self ..)
 unfold tokV at ht ⊢
 rw [hb sixB b1, hb quadB b2, hb wordB b3, sphead_app hne]
 rw [if_pos hh] at ht ⊢
 exact ht
theorem lexs_sg {s : List UInt8} {c : UInt8} {t : List UInt8} (hs : s = c :: t) (h6 : sixB c = false) (hd : isDig c = false) (hl : letB c = false) (hv : signV s = s) : LexS s [kS s] (fun r => ∃ d r', r = d :: r' ∧ ∀ e, ¬ ([e, d] ∈ twosL)) :=
 lexs_tok (k := kS s) fun r hr => by
  obtain ⟨d, r', rfl, hr⟩ := hr
  have hne : s ≠ [] := by rw [hs]; simp
  have h1 := spsign_two hne hr r'
  have h0 : (s ++ d :: r').takeWhile sixB = [] := by rw [hs]; exact List.takeWhile_cons_of_neg (by rw [h6]; simp)
  have hh : (s ++ d :: r').head? = some c := by rw [hs]; rfl
  show tokV (s ++ d :: r') = .ok (5, s, 0)
  unfold tokV
  rw [h0, hh, if_neg (by decide), if_neg (by show ¬ isDig c = true; rw [hd]; simp), if_neg (by show ¬ letB c = true; rw [hl]; simp), h1, hv, if_neg hne]
theorem dig_not {d : UInt8} (h : isDig d = true) (e : UInt8) : ¬ ([e, d] ∈ twosL) := by
 have : d ≠ 60 ∧ d ≠ 62 ∧ d ≠ 61 ∧ d ≠ 38 ∧ d ≠ 124 := by
  refine ⟨?_, ?_, ?_, ?_, ?_⟩ <;> rintro rfl <;> revert h <;> decide
 simp [twosL, this]
theorem bidec_head {n : Nat} (h : n ≤ 4294967295) (r : List UInt8) : ∃ d r', dec n ++ r = d :: r' ∧ ∀ e, ¬ ([e, d] ∈ twosL) := by
 have h20 : n < 10 ^ 20 := by omega
 have hd := dec_dig n h20
 have hne := dec_ne n h20
 generalize dec n = t at *
 cases t with
 | nil => exact absurd rfl hne
 | cons c t => exact ⟨c, t ++ r, rfl, fun e => dig_not (hd c (List.mem_cons_self ..)) e⟩
theorem sg_v : ∀ x : Fin 10, signV (sg x.val) = sg x.val := by decide
theorem bi_lex {x y a b c : Nat} (hx : x < 10) (hy : y < 10) (ha : a ≤ 4294967295) (hb : b ≤ 4294967295) (hc : c ≤ 4294967295) : LexS (biS x y a b c) [kN a, kS (sg x), kN b, kS (sg y), kN c, kS [61], kW wLen] EndS := by
 obtain ⟨⟨cx, tx, ex, x1, x2, x3, x4, x5⟩, -⟩ := bi_sign ⟨x, hx⟩
 obtain ⟨⟨cy, ty, ey, y1, y2, y3, y4, y5⟩, -⟩ := bi_sign ⟨y, hy⟩
 simp only at ex ey
 have h1 := (lexs_decD ha).app (lexs_sg ex x1 x4 x5 (sg_v ⟨x, hx⟩)) (fun r _ => ⟨cx, tx ++ r, by rw [ex]; rfl, x1, x2, x3⟩)
 have h2 := h1.app (lexs_decD hb) (fun r _ => bidec_head hb r)
 have h3 := h2.app (lexs_sg ey y1 y4 y5 (sg_v ⟨y, hy⟩)) (fun r _ => ⟨cy, ty ++ r, by rw [ey]; rfl, y1, y2, y3⟩)
 have h4 := h3.app (lexs_decD hc) (fun r _ => bidec_head hc r)
 have h5 := (lexs_sg (s := [61]) rfl (by decide) (by decide) (by decide) (by decide)).app (lexs_wordS (x := wLen) rfl) (fun r _ => ⟨108, [101, 110] ++ r, rfl, fun e => by simp [twosL]⟩)
 exact (h4.app h5 (fun r _ => ⟨61, wLen ++ r, rfl, by decide, by decide, by decide⟩)).cast (by simp [biS, wLen]) rfl
theorem bi_len {x y a b c : Nat} (hx : x < 10) (hy : y < 10) : (biS x y a b c).length ≤ 70 := by
 have key : ∀ x : Fin 10, (sg x.val).length ≤ 2 := by decide
 have h1 := key ⟨x, hx⟩
 have h2 := key ⟨y, hy⟩
 have h3 := dec_len a
 have h4 := dec_len b
 have h5 := dec_len c
 simp only at h1 h2
 unfold biS
 simp only [List.length_append, List.length_cons, List.length_nil]
 omega
theorem bi_parse {x y a b c : Nat} (hx : x < 10) (hy : y < 10) (ha : a ≤ 4294967295) (hb : b ≤ 4294967295) (hc : c ≤ 4294967295) : ∃ ns, parseV (biS x y a b c) = .ok ns ∧ ns.map (·.1.g) = (biE x y a b c).flat := by
 obtain ⟨k1, k2⟩ := bi_ky hx hy a b c
 have hl := bi_len (a := a) (b := b) (c := c) hx hy
 obtain ⟨A, h1, h2⟩ := (bi_lex hx hy ha hb hc) 0 [] [⟨0, 0 + (biS x y a b c).length, [], 0⟩] (.inl rfl) rfl
 rw [List.append_nil] at h1
 obtain ⟨ns, h3, h4⟩ := tree_parse false (bi_good hx hy a b c) (by omega) (e := ⟨0, 0 + (biS x y a b c).length, [], 0⟩) rfl (h2.trans k1.symm)
 refine ⟨ns, ?_, h4⟩
 unfold parseV lexV
 rw [if_neg (by omega), h1, thenE_ok, h3]
theorem bi_flat (x y a b c : Nat) : (biE x y a b c).flat = if rw11 x < rw11 y then [nmN a, nmN b, nmN c, akN (op11 y), akN (op11 x), lnN, eqN] else [nmN a, nmN b, akN (op11 x), nmN c, akN (op11 y), lnN, eqN] := by
 unfold biE biT
 split <;> rfl
def BI (w W : World) (B : Nat) (y : Ng) : Prop := NB W B y ∧ NB W w.heap.size ngZ ∧ w.grownBy W none ∧ w.heap.size < B
theorem BI.set {w W : World} {B : Nat} {y z : Ng} (h : BI w W B y) (j : Nat) (v : Value) (e : y.cells.toArray.setIfInBounds j v = z.cells.toArray) : BI w (W.setCell ⟨B, j, none⟩ v) B z := by
 refine ⟨?_, nb_other h.2.1 (by have := h.2.2.2; omega), grown_setCell h.2.2.1 _ _ (.inr (show w.heap.size ≤ B by have := h.2.2.2; omega)), h.2.2.2⟩
 have := VAt.set h.1 j v
 rw [e] at this
 exact this
theorem BI.new (w : World) : BI w ((w.alloc (.cells ngZ.cells.toArray 28)).alloc (.cells (akN 0).cells.toArray 28)) (w.alloc (.cells ngZ.cells.toArray 28)).heap.size (akN 0) :=
 ⟨VAt.alloc _ _ _, VAt.kept (VAt.alloc _ _ _) (World.grownBy_alloc _ _ none), grown_trans (World.grownBy_alloc _ _ none) (World.grownBy_alloc _ _ none), by simp⟩
theorem HB11 (W : World) : (Instr.build 28 #[(0, .int .i64 4)]).run Tryz.prog W = .ok (.agg (akN 0).cells.toArray) W := by kernel_rfl
set_option maxRecDepth 100000 in
set_option maxHeartbeats 16000000 in
theorem bin_0 (w : World) : Calls Tryz.prog 5 #[.int .i64 5, str [124]] w fun e w' => e = .returned (.tuple #[.agg (akN 7).cells.toArray, .bool true]) ∧ w.grownBy w' none := by
 have HN := BI.new w
 go_enter Tryz.func5, Tryz.ntmps5
 go_upto_region 1 with fail
 rw [show #[.int .i64 0, .int .i64 0, .int .u32 0, .int .u32 0, .int .i64 0, .int .i64 0, .int .i64 0, .int .u8 0, .int .u8 0, .int .u8 0, .int .u8 0, .int .u8 0, .int .u8 0, .int .u8 0, .int .u8 0, .int .u8 0, .int .u8 0, .int .u8 0, .int .u8 0, .int .u8 0, .int .u8 0, .int .u8 0, .int .u8 0, .int .i64 0] = ngZ.cells.toArray from rfl]
 have HS : Hid ((Tryz.prog.info? 28).map (·.size) = some (akN 0).cells.toArray.size) := ng_size _
 generalize w.alloc (.cells ngZ.cells.toArray 28) = w1 at *
 go_upto_region 2 with (first | refine wpList_bld rfl 28 _ rfl _ (by kernel_rfl) (.agg (akN 0).cells.toArray) HB11 ?_ | refine wpList_store_row rfl 28 (.tmp 6) (.tmp 7) rfl w1.heap.size (akN 0).cells.toArray rfl rfl 28 _ (VAt.alloc w1 _ _) HS.out rfl (ng_all _) ?_)
 rw [World.setRow_alloc_new]
 generalize w1.alloc (.cells (akN 0).cells.toArray 28) = W at *
 generalize w1.heap.size = B at *
 obtain ⟨H, hH⟩ : ∃ H, w.heap.size = H := ⟨_, rfl⟩
 have c1 : W.cell? ⟨B, 1, none⟩ = some (.int .i64 0) := VAt.cell HN.1 1
 have f1 := VAt.free HN.1 1
 have HX : Hid (BI w W B (akN 0)) := HN
 rw [hH]
 have HH : Hid (w.heap.size = H) := hH
 clear HN hH HS
 go_upto_region 11 with fail
 have HX0 : Hid (BI w (W.setCell ⟨B, 1, none⟩ (.int .i64 7)) B (akN 7)) := HX.out.set (z := akN 7) 1 (.int .i64 7) rfl
 generalize W.setCell ⟨B, 1, none⟩ (.int .i64 7) = W0 at *
 clear c1 f1
 obtain ⟨Y, hY⟩ : ∃ Y, (akN 7).cells.toArray = Y := ⟨_, rfl⟩
 have HY : Hid ((Tryz.prog.info? 28).map (·.size) = some Y.size ∧ ngZ.cells.toArray.size = Y.size ∧ Y.all (·.oneCell') = true) := by rw [← hY]; exact ⟨ng_size _, rfl, ng_all _⟩
 have HV : Hid (VAt W0 B 28 Y ∧ VAt W0 H 28 ngZ.cells.toArray ∧ w.grownBy W0 none) := by rw [← hY, ← HH.out]; exact ⟨HX0.out.1, HX0.out.2.1, HX0.out.2.2.1⟩
 have HYE : Hid ((akN 7).cells.toArray = Y) := hY
 have HE : Hid (w.heap.size ≤ H) := Nat.le_of_eq HH.out
 clear hY HX HX0 HH
 go_wp2_with (first | refine wpList_load_row rfl 28 (.tmp 6) rfl B rfl 28 Y (0, 0) _ HV.out.1 Tryz.underlying28 rfl HY.out.1 ?_ | refine wpList_store_row rfl 28 (.tmp 4) (.tmp 36) rfl H Y rfl rfl 28 _ HV.out.2.1 HY.out.1 HY.out.2.1 HY.out.2.2 ?_)
 refine bodyPost_ret (ret_rowT rfl _ _ H Y _ rfl (VAt.setRow HV.out.2.1 _) Tryz.underlying28 rfl HY.out.1) rfl ?_
 exact ⟨by rw [HYE.out]; rfl, vgrown_setRow HV.out.2.2 H _ (.inr HE.out)⟩
set_option maxRecDepth 100000 in
set_option maxHeartbeats 16000000 in
theorem bin_1 (w : World) : Calls Tryz.prog 5 #[.int .i64 6, str [94]] w fun e w' => e = .returned (.tuple #[.agg (akN 8).cells.toArray, .bool true]) ∧ w.grownBy w' none := by
 have HN := BI.new w
 go_enter Tryz.func5, Tryz.ntmps5
 go_upto_region 1 with fail
 rw [show #[.int .i64 0, .int .i64 0, .int .u32 0, .int .u32 0, .int .i64 0, .int .i64 0, .int .i64 0, .int .u8 0, .int .u8 0, .int .u8 0, .int .u8 0, .int .u8 0, .int .u8 0, .int .u8 0, .int .u8 0, .int .u8 0, .int .u8 0, .int .u8 0, .int .u8 0, .int .u8 0, .int .u8 0, .int .u8 0, .int .u8 0, .int .i64 0] = ngZ.cells.toArray from rfl]
 have HS : Hid ((Tryz.prog.info? 28).map (·.size) = some (akN 0).cells.toArray.size) := ng_size _
 generalize w.alloc (.cells ngZ.cells.toArray 28) = w1 at *
 go_upto_region 2 with (first | refine wpList_bld rfl 28 _ rfl _ (by kernel_rfl) (.agg (akN 0).cells.toArray) HB11 ?_ | refine wpList_store_row rfl 28 (.tmp 6) (.tmp 7) rfl w1.heap.size (akN 0).cells.toArray rfl rfl 28 _ (VAt.alloc w1 _ _) HS.out rfl (ng_all _) ?_)
 rw [World.setRow_alloc_new]
 generalize w1.alloc (.cells (akN 0).cells.toArray 28) = W at *
 generalize w1.heap.size = B at *
 obtain ⟨H, hH⟩ : ∃ H, w.heap.size = H := ⟨_, rfl⟩
 have c1 : W.cell? ⟨B, 1, none⟩ = some (.int .i64 0) := VAt.cell HN.1 1
 have f1 := VAt.free HN.1 1
 have HX : Hid (BI w W B (akN 0)) := HN
 rw [hH]
 have HH : Hid (w.heap.size = H) := hH
 clear HN hH HS
 go_upto_region 14 with fail
 have HX0 : Hid (BI w (W.setCell ⟨B, 1, none⟩ (.int .i64 8)) B (akN 8)) := HX.out.set (z := akN 8) 1 (.int .i64 8) rfl
 generalize W.setCell ⟨B, 1, none⟩ (.int .i64 8) = W0 at *
 clear c1 f1
 obtain ⟨Y, hY⟩ : ∃ Y, (akN 8).cells.toArray = Y := ⟨_, rfl⟩
 have HY : Hid ((Tryz.prog.info? 28).map (·.size) = some Y.size ∧ ngZ.cells.toArray.size = Y.size ∧ Y.all (·.oneCell') = true) := by rw [← hY]; exact ⟨ng_size _, rfl, ng_all _⟩
 have HV : Hid (VAt W0 B 28 Y ∧ VAt W0 H 28 ngZ.cells.toArray ∧ w.grownBy W0 none) := by rw [← hY, ← HH.out]; exact ⟨HX0.out.1, HX0.out.2.1, HX0.out.2.2.1⟩
 have HYE : Hid ((akN 8).cells.toArray = Y) := hY
 have HE : Hid (w.heap.size ≤ H) := Nat.le_of_eq HH.out
 clear hY HX HX0 HH
 go_wp2_with (first | refine wpList_load_row rfl 28 (.tmp 6) rfl B rfl 28 Y (0, 0) _ HV.out.1 Tryz.underlying28 rfl HY.out.1 ?_ | refine wpList_store_row rfl 28 (.tmp 4) (.tmp 42) rfl H Y rfl rfl 28 _ HV.out.2.1 HY.out.1 HY.out.2.1 HY.out.2.2 ?_)
 refine bodyPost_ret (ret_rowT rfl _ _ H Y _ rfl (VAt.setRow HV.out.2.1 _) Tryz.underlying28 rfl HY.out.1) rfl ?_
 exact ⟨by rw [HYE.out]; rfl, vgrown_setRow HV.out.2.2 H _ (.inr HE.out)⟩
set_option maxRecDepth 100000 in
set_option maxHeartbeats 16000000 in
theorem bin_2 (w : World) : Calls Tryz.prog 5 #[.int .i64 7, str [38]] w fun e w' => e = .returned (.tuple #[.agg (akN 6).cells.toArray, .bool true]) ∧ w.grownBy w' none := by
 have HN := BI.new w
 go_enter Tryz.func5, Tryz.ntmps5
 go_upto_region 1 with fail
 rw [show #[.int .i64 0, .int .i64 0, .int .u32 0, .int .u32 0, .int .i64 0, .int .i64 0, .int .i64 0, .int .u8 0, .int .u8 0, .int .u8 0, .int .u8 0, .int .u8 0, .int .u8 0, .int .u8 0, .int .u8 0, .int .u8 0, .int .u8 0, .int .u8 0, .int .u8 0, .int .u8 0, .int .u8 0, .int .u8 0, .int .u8 0, .int .i64 0] = ngZ.cells.toArray from rfl]
 have HS : Hid ((Tryz.prog.info? 28).map (·.size) = some (akN 0).cells.toArray.size) := ng_size _
 generalize w.alloc (.cells ngZ.cells.toArray 28) = w1 at *
 go_upto_region 2 with (first | refine wpList_bld rfl 28 _ rfl _ (by kernel_rfl) (.agg (akN 0).cells.toArray) HB11 ?_ | refine wpList_store_row rfl 28 (.tmp 6) (.tmp 7) rfl w1.heap.size (akN 0).cells.toArray rfl rfl 28 _ (VAt.alloc w1 _ _) HS.out rfl (ng_all _) ?_)
 rw [World.setRow_alloc_new]
 generalize w1.alloc (.cells (akN 0).cells.toArray 28) = W at *
 generalize w1.heap.size = B at *
 obtain ⟨H, hH⟩ : ∃ H, w.heap.size = H := ⟨_, rfl⟩
 have c1 : W.cell? ⟨B, 1, none⟩ = some (.int .i64 0) := VAt.cell HN.1 1
 have f1 := VAt.free HN.1 1
 have HX : Hid (BI w W B (akN 0)) := HN
 rw [hH]
 have HH : Hid (w.heap.size = H) := hH
 clear HN hH HS
 go_upto_region 17 with fail
 have HX0 : Hid (BI w (W.setCell ⟨B, 1, none⟩ (.int .i64 6)) B (akN 6)) := HX.out.set (z := akN 6) 1 (.int .i64 6) rfl
 generalize W.setCell ⟨B, 1, none⟩ (.int .i64 6) = W0 at *
 clear c1 f1
 obtain ⟨Y, hY⟩ : ∃ Y, (akN 6).cells.toArray = Y := ⟨_, rfl⟩
 have HY : Hid ((Tryz.prog.info? 28).map (·.size) = some Y.size ∧ ngZ.cells.toArray.size = Y.size ∧ Y.all (·.oneCell') = true) := by rw [← hY]; exact ⟨ng_size _, rfl, ng_all _⟩
 have HV : Hid (VAt W0 B 28 Y ∧ VAt W0 H 28 ngZ.cells.toArray ∧ w.grownBy W0 none) := by rw [← hY, ← HH.out]; exact ⟨HX0.out.1, HX0.out.2.1, HX0.out.2.2.1⟩
 have HYE : Hid ((akN 6).cells.toArray = Y) := hY
 have HE : Hid (w.heap.size ≤ H) := Nat.le_of_eq HH.out
 clear hY HX HX0 HH
 go_wp2_with (first | refine wpList_load_row rfl 28 (.tmp 6) rfl B rfl 28 Y (0, 0) _ HV.out.1 Tryz.underlying28 rfl HY.out.1 ?_ | refine wpList_store_row rfl 28 (.tmp 4) (.tmp 48) rfl H Y rfl rfl 28 _ HV.out.2.1 HY.out.1 HY.out.2.1 HY.out.2.2 ?_)
 refine bodyPost_ret (ret_rowT rfl _ _ H Y _ rfl (VAt.setRow HV.out.2.1 _) Tryz.underlying28 rfl HY.out.1) rfl ?_
 exact ⟨by rw [HYE.out]; rfl, vgrown_setRow HV.out.2.2 H _ (.inr HE.out)⟩
set_option maxRecDepth 100000 in
set_option maxHeartbeats 16000000 in
theorem bin_3 (w : World) : Calls Tryz.prog 5 #[.int .i64 8, str [60, 60]] w fun e w' => e = .returned (.tuple #[.agg (akN 9).cells.toArray, .bool true]) ∧ w.grownBy w' none := by
 have HN := BI.new w
 go_enter Tryz.func5, Tryz.ntmps5
 go_upto_region 1 with fail
 rw [show #[.int .i64 0, .int .i64 0, .int .u32 0, .int .u32 0, .int .i64 0, .int .i64 0, .int .i64 0, .int .u8 0, .int .u8 0, .int .u8 0, .int .u8 0, .int .u8 0, .int .u8 0, .int .u8 0, .int .u8 0, .int .u8 0, .int .u8 0, .int .u8 0, .int .u8 0, .int .u8 0, .int .u8 0, .int .u8 0, .int .u8 0, .int .i64 0] = ngZ.cells.toArray from rfl]
 have HS : Hid ((Tryz.prog.info? 28).map (·.size) = some (akN 0).cells.toArray.size) := ng_size _
 generalize w.alloc (.cells ngZ.cells.toArray 28) = w1 at *
 go_upto_region 2 with (first | refine wpList_bld rfl 28 _ rfl _ (by kernel_rfl) (.agg (akN 0).cells.toArray) HB11 ?_ | refine wpList_store_row rfl 28 (.tmp 6) (.tmp 7) rfl w1.heap.size (akN 0).cells.toArray rfl rfl 28 _ (VAt.alloc w1 _ _) HS.out rfl (ng_all _) ?_)
 rw [World.setRow_alloc_new]
 generalize w1.alloc (.cells (akN 0).cells.toArray 28) = W at *
 generalize w1.heap.size = B at *
 obtain ⟨H, hH⟩ : ∃ H, w.heap.size = H := ⟨_, rfl⟩
 have c1 : W.cell? ⟨B, 1, none⟩ = some (.int .i64 0) := VAt.cell HN.1 1
 have f1 := VAt.free HN.1 1
 have HX : Hid (BI w W B (akN 0)) := HN
 rw [hH]
 have HH : Hid (w.heap.size = H) := hH
 clear HN hH HS
 go_upto_region 22 with fail
 have HX0 : Hid (BI w (W.setCell ⟨B, 1, none⟩ (.int .i64 9)) B (akN 9)) := HX.out.set (z := akN 9) 1 (.int .i64 9) rfl
 generalize W.setCell ⟨B, 1, none⟩ (.int .i64 9) = W0 at *
 clear c1 f1
 obtain ⟨Y, hY⟩ : ∃ Y, (akN 9).cells.toArray = Y := ⟨_, rfl⟩
 have HY : Hid ((Tryz.prog.info? 28).map (·.size) = some Y.size ∧ ngZ.cells.toArray.size = Y.size ∧ Y.all (·.oneCell') = true) := by rw [← hY]; exact ⟨ng_size _, rfl, ng_all _⟩
 have HV : Hid (VAt W0 B 28 Y ∧ VAt W0 H 28 ngZ.cells.toArray ∧ w.grownBy W0 none) := by rw [← hY, ← HH.out]; exact ⟨HX0.out.1, HX0.out.2.1, HX0.out.2.2.1⟩
 have HYE : Hid ((akN 9).cells.toArray = Y) := hY
 have HE : Hid (w.heap.size ≤ H) := Nat.le_of_eq HH.out
 clear hY HX HX0 HH
 go_wp2_with (first | refine wpList_load_row rfl 28 (.tmp 6) rfl B rfl 28 Y (0, 0) _ HV.out.1 Tryz.underlying28 rfl HY.out.1 ?_ | refine wpList_store_row rfl 28 (.tmp 4) (.tmp 57) rfl H Y rfl rfl 28 _ HV.out.2.1 HY.out.1 HY.out.2.1 HY.out.2.2 ?_)
 refine bodyPost_ret (ret_rowT rfl _ _ H Y _ rfl (VAt.setRow HV.out.2.1 _) Tryz.underlying28 rfl HY.out.1) rfl ?_
 exact ⟨by rw [HYE.out]; rfl, vgrown_setRow HV.out.2.2 H _ (.inr HE.out)⟩
set_option maxRecDepth 100000 in
set_option maxHeartbeats 16000000 in
theorem bin_4 (w : World) : Calls Tryz.prog 5 #[.int .i64 8, str [62, 62]] w fun e w' => e = .returned (.tuple #[.agg (akN 10).cells.toArray, .bool true]) ∧ w.grownBy w' none := by
 have HN := BI.new w
 go_enter Tryz.func5, Tryz.ntmps5
 go_upto_region 1 with fail
 rw [show #[.int .i64 0, .int .i64 0, .int .u32 0, .int .u32 0, .int .i64 0, .int .i64 0, .int .i64 0, .int .u8 0, .int .u8 0, .int .u8 0, .int .u8 0, .int .u8 0, .int .u8 0, .int .u8 0, .int .u8 0, .int .u8 0, .int .u8 0, .int .u8 0, .int .u8 0, .int .u8 0, .int .u8 0, .int .u8 0, .int .u8 0, .int .i64 0] = ngZ.cells.toArray from rfl]
 have HS : Hid ((Tryz.prog.info? 28).map (·.size) = some (akN 0).cells.toArray.size) := ng_size _
 generalize w.alloc (.cells ngZ.cells.toArray 28) = w1 at *
 go_upto_region 2 with (first | refine wpList_bld rfl 28 _ rfl _ (by kernel_rfl) (.agg (akN 0).cells.toArray) HB11 ?_ | refine wpList_store_row rfl 28 (.tmp 6) (.tmp 7) rfl w1.heap.size (akN 0).cells.toArray rfl rfl 28 _ (VAt.alloc w1 _ _) HS.out rfl (ng_all _) ?_)
 rw [World.setRow_alloc_new]
 generalize w1.alloc (.cells (akN 0).cells.toArray 28) = W at *
 generalize w1.heap.size = B at *
 obtain ⟨H, hH⟩ : ∃ H, w.heap.size = H := ⟨_, rfl⟩
 have c1 : W.cell? ⟨B, 1, none⟩ = some (.int .i64 0) := VAt.cell HN.1 1
 have f1 := VAt.free HN.1 1
 have HX : Hid (BI w W B (akN 0)) := HN
 rw [hH]
 have HH : Hid (w.heap.size = H) := hH
 clear HN hH HS
 go_upto_region 20 with fail
 have HX0 : Hid (BI w (W.setCell ⟨B, 1, none⟩ (.int .i64 9)) B (akN 9)) := HX.out.set (z := akN 9) 1 (.int .i64 9) rfl
 generalize W.setCell ⟨B, 1, none⟩ (.int .i64 9) = W0 at *
 clear c1 f1
 have c1 : W0.cell? ⟨B, 1, none⟩ = some (.int .i64 9) := VAt.cell HX0.out.1 1
 have f1 := VAt.free HX0.out.1 1
 go_upto_region 22 with fail
 have HX1 : Hid (BI w (W0.setCell ⟨B, 1, none⟩ (.int .i64 10)) B (akN 10)) := HX0.out.set (z := akN 10) 1 (.int .i64 10) rfl
 generalize W0.setCell ⟨B, 1, none⟩ (.int .i64 10) = W1 at *
 clear c1 f1
 obtain ⟨Y, hY⟩ : ∃ Y, (akN 10).cells.toArray = Y := ⟨_, rfl⟩
 have HY : Hid ((Tryz.prog.info? 28).map (·.size) = some Y.size ∧ ngZ.cells.toArray.size = Y.size ∧ Y.all (·.oneCell') = true) := by rw [← hY]; exact ⟨ng_size _, rfl, ng_all _⟩
 have HV : Hid (VAt W1 B 28 Y ∧ VAt W1 H 28 ngZ.cells.toArray ∧ w.grownBy W1 none) := by rw [← hY, ← HH.out]; exact ⟨HX1.out.1, HX1.out.2.1, HX1.out.2.2.1⟩
 have HYE : Hid ((akN 10).cells.toArray = Y) := hY
 have HE : Hid (w.heap.size ≤ H) := Nat.le_of_eq HH.out
 clear hY HX HX0 HX1 HH
 go_wp2_with (first | refine wpList_load_row rfl 28 (.tmp 6) rfl B rfl 28 Y (0, 0) _ HV.out.1 Tryz.underlying28 rfl HY.out.1 ?_ | refine wpList_store_row rfl 28 (.tmp 4) (.tmp 57) rfl H Y rfl rfl 28 _ HV.out.2.1 HY.out.1 HY.out.2.1 HY.out.2.2 ?_)
 refine bodyPost_ret (ret_rowT rfl _ _ H Y _ rfl (VAt.setRow HV.out.2.1 _) Tryz.underlying28 rfl HY.out.1) rfl ?_
 exact ⟨by rw [HYE.out]; rfl, vgrown_setRow HV.out.2.2 H _ (.inr HE.out)⟩
set_option maxRecDepth 100000 in
set_option maxHeartbeats 16000000 in
theorem bin_5 (w : World) : Calls Tryz.prog 5 #[.int .i64 9, str [43]] w fun e w' => e = .returned (.tuple #[.agg (akN 1).cells.toArray, .bool true]) ∧ w.grownBy w' none := by
 have HN := BI.new w
 go_enter Tryz.func5, Tryz.ntmps5
 go_upto_region 1 with fail
 rw [show #[.int .i64 0, .int .i64 0, .int .u32 0, .int .u32 0, .int .i64 0, .int .i64 0, .int .i64 0, .int .u8 0, .int .u8 0, .int .u8 0, .int .u8 0, .int .u8 0, .int .u8 0, .int .u8 0, .int .u8 0, .int .u8 0, .int .u8 0, .int .u8 0, .int .u8 0, .int .u8 0, .int .u8 0, .int .u8 0, .int .u8 0, .int .i64 0] = ngZ.cells.toArray from rfl]
 have HS : Hid ((Tryz.prog.info? 28).map (·.size) = some (akN 0).cells.toArray.size) := ng_size _
 generalize w.alloc (.cells ngZ.cells.toArray 28) = w1 at *
 go_upto_region 2 with (first | refine wpList_bld rfl 28 _ rfl _ (by kernel_rfl) (.agg (akN 0).cells.toArray) HB11 ?_ | refine wpList_store_row rfl 28 (.tmp 6) (.tmp 7) rfl w1.heap.size (akN 0).cells.toArray rfl rfl 28 _ (VAt.alloc w1 _ _) HS.out rfl (ng_all _) ?_)
 rw [World.setRow_alloc_new]
 generalize w1.alloc (.cells (akN 0).cells.toArray 28) = W at *
 generalize w1.heap.size = B at *
 obtain ⟨H, hH⟩ : ∃ H, w.heap.size = H := ⟨_, rfl⟩
 have c1 : W.cell? ⟨B, 1, none⟩ = some (.int .i64 0) := VAt.cell HN.1 1
 have f1 := VAt.free HN.1 1
 have HX : Hid (BI w W B (akN 0)) := HN
 rw [hH]
 have HH : Hid (w.heap.size = H) := hH
 clear HN hH HS
 go_upto_region 27 with fail
 have HX0 : Hid (BI w (W.setCell ⟨B, 1, none⟩ (.int .i64 1)) B (akN 1)) := HX.out.set (z := akN 1) 1 (.int .i64 1) rfl
 generalize W.setCell ⟨B, 1, none⟩ (.int .i64 1) = W0 at *
 clear c1 f1
 obtain ⟨Y, hY⟩ : ∃ Y, (akN 1).cells.toArray = Y := ⟨_, rfl⟩
 have HY : Hid ((Tryz.prog.info? 28).map (·.size) = some Y.size ∧ ngZ.cells.toArray.size = Y.size ∧ Y.all (·.oneCell') = true) := by rw [← hY]; exact ⟨ng_size _, rfl, ng_all _⟩
 have HV : Hid (VAt W0 B 28 Y ∧ VAt W0 H 28 ngZ.cells.toArray ∧ w.grownBy W0 none) := by rw [← hY, ← HH.out]; exact ⟨HX0.out.1, HX0.out.2.1, HX0.out.2.2.1⟩
 have HYE : Hid ((akN 1).cells.toArray = Y) := hY
 have HE : Hid (w.heap.size ≤ H) := Nat.le_of_eq HH.out
 clear hY HX HX0 HH
 go_wp2_with (first | refine wpList_load_row rfl 28 (.tmp 6) rfl B rfl 28 Y (0, 0) _ HV.out.1 Tryz.underlying28 rfl HY.out.1 ?_ | refine wpList_store_row rfl 28 (.tmp 4) (.tmp 70) rfl H Y rfl rfl 28 _ HV.out.2.1 HY.out.1 HY.out.2.1 HY.out.2.2 ?_)
 refine bodyPost_ret (ret_rowT rfl _ _ H Y _ rfl (VAt.setRow HV.out.2.1 _) Tryz.underlying28 rfl HY.out.1) rfl ?_
 exact ⟨by rw [HYE.out]; rfl, vgrown_setRow HV.out.2.2 H _ (.inr HE.out)⟩
set_option maxRecDepth 100000 in
set_option maxHeartbeats 16000000 in
theorem bin_6 (w : World) : Calls Tryz.prog 5 #[.int .i64 9, str [45]] w fun e w' => e = .returned (.tuple #[.agg (akN 2).cells.toArray, .bool true]) ∧ w.grownBy w' none := by
 have HN := BI.new w
 go_enter Tryz.func5, Tryz.ntmps5
 go_upto_region 1 with fail
 rw [show #[.int .i64 0, .int .i64 0, .int .u32 0, .int .u32 0, .int .i64 0, .int .i64 0, .int .i64 0, .int .u8 0, .int .u8 0, .int .u8 0, .int .u8 0, .int .u8 0, .int .u8 0, .int .u8 0, .int .u8 0, .int .u8 0, .int .u8 0, .int .u8 0, .int .u8 0, .int .u8 0, .int .u8 0, .int .u8 0, .int .u8 0, .int .i64 0] = ngZ.cells.toArray from rfl]
 have HS : Hid ((Tryz.prog.info? 28).map (·.size) = some (akN 0).cells.toArray.size) := ng_size _
 generalize w.alloc (.cells ngZ.cells.toArray 28) = w1 at *
 go_upto_region 2 with (first | refine wpList_bld rfl 28 _ rfl _ (by kernel_rfl) (.agg (akN 0).cells.toArray) HB11 ?_ | refine wpList_store_row rfl 28 (.tmp 6) (.tmp 7) rfl w1.heap.size (akN 0).cells.toArray rfl rfl 28 _ (VAt.alloc w1 _ _) HS.out rfl (ng_all _) ?_)
 rw [World.setRow_alloc_new]
 generalize w1.alloc (.cells (akN 0).cells.toArray 28) = W at *
 generalize w1.heap.size = B at *
 obtain ⟨H, hH⟩ : ∃ H, w.heap.size = H := ⟨_, rfl⟩
 have c1 : W.cell? ⟨B, 1, none⟩ = some (.int .i64 0) := VAt.cell HN.1 1
 have f1 := VAt.free HN.1 1
 have HX : Hid (BI w W B (akN 0)) := HN
 rw [hH]
 have HH : Hid (w.heap.size = H) := hH
 clear HN hH HS
 go_upto_region 25 with fail
 have HX0 : Hid (BI w (W.setCell ⟨B, 1, none⟩ (.int .i64 1)) B (akN 1)) := HX.out.set (z := akN 1) 1 (.int .i64 1) rfl
 generalize W.setCell ⟨B, 1, none⟩ (.int .i64 1) = W0 at *
 clear c1 f1
 have c1 : W0.cell? ⟨B, 1, none⟩ = some (.int .i64 1) := VAt.cell HX0.out.1 1
 have f1 := VAt.free HX0.out.1 1
 go_upto_region 27 with fail
 have HX1 : Hid (BI w (W0.setCell ⟨B, 1, none⟩ (.int .i64 2)) B (akN 2)) := HX0.out.set (z := akN 2) 1 (.int .i64 2) rfl
 generalize W0.setCell ⟨B, 1, none⟩ (.int .i64 2) = W1 at *
 clear c1 f1
 obtain ⟨Y, hY⟩ : ∃ Y, (akN 2).cells.toArray = Y := ⟨_, rfl⟩
 have HY : Hid ((Tryz.prog.info? 28).map (·.size) = some Y.size ∧ ngZ.cells.toArray.size = Y.size ∧ Y.all (·.oneCell') = true) := by rw [← hY]; exact ⟨ng_size _, rfl, ng_all _⟩
 have HV : Hid (VAt W1 B 28 Y ∧ VAt W1 H 28 ngZ.cells.toArray ∧ w.grownBy W1 none) := by rw [← hY, ← HH.out]; exact ⟨HX1.out.1, HX1.out.2.1, HX1.out.2.2.1⟩
 have HYE : Hid ((akN 2).cells.toArray = Y) := hY
 have HE : Hid (w.heap.size ≤ H) := Nat.le_of_eq HH.out
 clear hY HX HX0 HX1 HH
 go_wp2_with (first | refine wpList_load_row rfl 28 (.tmp 6) rfl B rfl 28 Y (0, 0) _ HV.out.1 Tryz.underlying28 rfl HY.out.1 ?_ | refine wpList_store_row rfl 28 (.tmp 4) (.tmp 70) rfl H Y rfl rfl 28 _ HV.out.2.1 HY.out.1 HY.out.2.1 HY.out.2.2 ?_)
 refine bodyPost_ret (ret_rowT rfl _ _ H Y _ rfl (VAt.setRow HV.out.2.1 _) Tryz.underlying28 rfl HY.out.1) rfl ?_
 exact ⟨by rw [HYE.out]; rfl, vgrown_setRow HV.out.2.2 H _ (.inr HE.out)⟩
set_option maxRecDepth 100000 in
set_option maxHeartbeats 16000000 in
theorem bin_7 (w : World) : Calls Tryz.prog 5 #[.int .i64 10, str [42]] w fun e w' => e = .returned (.tuple #[.agg (akN 3).cells.toArray, .bool true]) ∧ w.grownBy w' none := by
 have HN := BI.new w
 go_enter Tryz.func5, Tryz.ntmps5
 go_upto_region 1 with fail
 rw [show #[.int .i64 0, .int .i64 0, .int .u32 0, .int .u32 0, .int .i64 0, .int .i64 0, .int .i64 0, .int .u8 0, .int .u8 0, .int .u8 0, .int .u8 0, .int .u8 0, .int .u8 0, .int .u8 0, .int .u8 0, .int .u8 0, .int .u8 0, .int .u8 0, .int .u8 0, .int .u8 0, .int .u8 0, .int .u8 0, .int .u8 0, .int .i64 0] = ngZ.cells.toArray from rfl]
 have HS : Hid ((Tryz.prog.info? 28).map (·.size) = some (akN 0).cells.toArray.size) := ng_size _
 generalize w.alloc (.cells ngZ.cells.toArray 28) = w1 at *
 go_upto_region 2 with (first | refine wpList_bld rfl 28 _ rfl _ (by kernel_rfl) (.agg (akN 0).cells.toArray) HB11 ?_ | refine wpList_store_row rfl 28 (.tmp 6) (.tmp 7) rfl w1.heap.size (akN 0).cells.toArray rfl rfl 28 _ (VAt.alloc w1 _ _) HS.out rfl (ng_all _) ?_)
 rw [World.setRow_alloc_new]
 generalize w1.alloc (.cells (akN 0).cells.toArray 28) = W at *
 generalize w1.heap.size = B at *
 obtain ⟨H, hH⟩ : ∃ H, w.heap.size = H := ⟨_, rfl⟩
 have c1 : W.cell? ⟨B, 1, none⟩ = some (.int .i64 0) := VAt.cell HN.1 1
 have f1 := VAt.free HN.1 1
 have HX : Hid (BI w W B (akN 0)) := HN
 rw [hH]
 have HH : Hid (w.heap.size = H) := hH
 clear HN hH HS
 go_upto_region 34 with fail
 have HX0 : Hid (BI w (W.setCell ⟨B, 1, none⟩ (.int .i64 3)) B (akN 3)) := HX.out.set (z := akN 3) 1 (.int .i64 3) rfl
 generalize W.setCell ⟨B, 1, none⟩ (.int .i64 3) = W0 at *
 clear c1 f1
 obtain ⟨Y, hY⟩ : ∃ Y, (akN 3).cells.toArray = Y := ⟨_, rfl⟩
 have HY : Hid ((Tryz.prog.info? 28).map (·.size) = some Y.size ∧ ngZ.cells.toArray.size = Y.size ∧ Y.all (·.oneCell') = true) := by rw [← hY]; exact ⟨ng_size _, rfl, ng_all _⟩
 have HV : Hid (VAt W0 B 28 Y ∧ VAt W0 H 28 ngZ.cells.toArray ∧ w.grownBy W0 none) := by rw [← hY, ← HH.out]; exact ⟨HX0.out.1, HX0.out.2.1, HX0.out.2.2.1⟩
 have HYE : Hid ((akN 3).cells.toArray = Y) := hY
 have HE : Hid (w.heap.size ≤ H) := Nat.le_of_eq HH.out
 clear hY HX HX0 HH
 go_wp2_with (first | refine wpList_load_row rfl 28 (.tmp 6) rfl B rfl 28 Y (0, 0) _ HV.out.1 Tryz.underlying28 rfl HY.out.1 ?_ | refine wpList_store_row rfl 28 (.tmp 4) (.tmp 85) rfl H Y rfl rfl 28 _ HV.out.2.1 HY.out.1 HY.out.2.1 HY.out.2.2 ?_)
 refine bodyPost_ret (ret_rowT rfl _ _ H Y _ rfl (VAt.setRow HV.out.2.1 _) Tryz.underlying28 rfl HY.out.1) rfl ?_
 exact ⟨by rw [HYE.out]; rfl, vgrown_setRow HV.out.2.2 H _ (.inr HE.out)⟩
set_option maxRecDepth 100000 in
set_option maxHeartbeats 16000000 in
theorem bin_8 (w : World) : Calls Tryz.prog 5 #[.int .i64 10, str [47]] w fun e w' => e = .returned (.tuple #[.agg (akN 4).cells.toArray, .bool true]) ∧ w.grownBy w' none := by
 have HN := BI.new w
 go_enter Tryz.func5, Tryz.ntmps5
 go_upto_region 1 with fail
 rw [show #[.int .i64 0, .int .i64 0, .int .u32 0, .int .u32 0, .int .i64 0, .int .i64 0, .int .i64 0, .int .u8 0, .int .u8 0, .int .u8 0, .int .u8 0, .int .u8 0, .int .u8 0, .int .u8 0, .int .u8 0, .int .u8 0, .int .u8 0, .int .u8 0, .int .u8 0, .int .u8 0, .int .u8 0, .int .u8 0, .int .u8 0, .int .i64 0] = ngZ.cells.toArray from rfl]
 have HS : Hid ((Tryz.prog.info? 28).map (·.size) = some (akN 0).cells.toArray.size) := ng_size _
 generalize w.alloc (.cells ngZ.cells.toArray 28) = w1 at *
 go_upto_region 2 with (first | refine wpList_bld rfl 28 _ rfl _ (by kernel_rfl) (.agg (akN 0).cells.toArray) HB11 ?_ | refine wpList_store_row rfl 28 (.tmp 6) (.tmp 7) rfl w1.heap.size (akN 0).cells.toArray rfl rfl 28 _ (VAt.alloc w1 _ _) HS.out rfl (ng_all _) ?_)
 rw [World.setRow_alloc_new]
 generalize w1.alloc (.cells (akN 0).cells.toArray 28) = W at *
 generalize w1.heap.size = B at *
 obtain ⟨H, hH⟩ : ∃ H, w.heap.size = H := ⟨_, rfl⟩
 have c1 : W.cell? ⟨B, 1, none⟩ = some (.int .i64 0) := VAt.cell HN.1 1
 have f1 := VAt.free HN.1 1
 have HX : Hid (BI w W B (akN 0)) := HN
 rw [hH]
 have HH : Hid (w.heap.size = H) := hH
 clear HN hH HS
 go_upto_region 29 with fail
 have HX0 : Hid (BI w (W.setCell ⟨B, 1, none⟩ (.int .i64 3)) B (akN 3)) := HX.out.set (z := akN 3) 1 (.int .i64 3) rfl
 generalize W.setCell ⟨B, 1, none⟩ (.int .i64 3) = W0 at *
 clear c1 f1
 have c1 : W0.cell? ⟨B, 1, none⟩ = some (.int .i64 3) := VAt.cell HX0.out.1 1
 have f1 := VAt.free HX0.out.1 1
 go_upto_region 34 with fail
 have HX1 : Hid (BI w (W0.setCell ⟨B, 1, none⟩ (.int .i64 4)) B (akN 4)) := HX0.out.set (z := akN 4) 1 (.int .i64 4) rfl
 generalize W0.setCell ⟨B, 1, none⟩ (.int .i64 4) = W1 at *
 clear c1 f1
 obtain ⟨Y, hY⟩ : ∃ Y, (akN 4).cells.toArray = Y := ⟨_, rfl⟩
 have HY : Hid ((Tryz.prog.info? 28).map (·.size) = some Y.size ∧ ngZ.cells.toArray.size = Y.size ∧ Y.all (·.oneCell') = true) := by rw [← hY]; exact ⟨ng_size _, rfl, ng_all _⟩
 have HV : Hid (VAt W1 B 28 Y ∧ VAt W1 H 28 ngZ.cells.toArray ∧ w.grownBy W1 none) := by rw [← hY, ← HH.out]; exact ⟨HX1.out.1, HX1.out.2.1, HX1.out.2.2.1⟩
 have HYE : Hid ((akN 4).cells.toArray = Y) := hY
 have HE : Hid (w.heap.size ≤ H) := Nat.le_of_eq HH.out
 clear hY HX HX0 HX1 HH
 go_wp2_with (first | refine wpList_load_row rfl 28 (.tmp 6) rfl B rfl 28 Y (0, 0) _ HV.out.1 Tryz.underlying28 rfl HY.out.1 ?_ | refine wpList_store_row rfl 28 (.tmp 4) (.tmp 85) rfl H Y rfl rfl 28 _ HV.out.2.1 HY.out.1 HY.out.2.1 HY.out.2.2 ?_)
 refine bodyPost_ret (ret_rowT rfl _ _ H Y _ rfl (VAt.setRow HV.out.2.1 _) Tryz.underlying28 rfl HY.out.1) rfl ?_
 exact ⟨by rw [HYE.out]; rfl, vgrown_setRow HV.out.2.2 H _ (.inr HE.out)⟩
set_option maxRecDepth 100000 in
set_option maxHeartbeats 16000000 in
theorem bin_9 (w : World) : Calls Tryz.prog 5 #[.int .i64 10, str [37]] w fun e w' => e = .returned (.tuple #[.agg (akN 5).cells.toArray, .bool true]) ∧ w.grownBy w' none := by
 have HN := BI.new w
 go_enter Tryz.func5, Tryz.ntmps5
 go_upto_region 1 with fail
 rw [show #[.int .i64 0, .int .i64 0, .int .u32 0, .int .u32 0, .int .i64 0, .int .i64 0, .int .i64 0, .int .u8 0, .int .u8 0, .int .u8 0, .int .u8 0, .int .u8 0, .int .u8 0, .int .u8 0, .int .u8 0, .int .u8 0, .int .u8 0, .int .u8 0, .int .u8 0, .int .u8 0, .int .u8 0, .int .u8 0, .int .u8 0, .int .i64 0] = ngZ.cells.toArray from rfl]
 have HS : Hid ((Tryz.prog.info? 28).map (·.size) = some (akN 0).cells.toArray.size) := ng_size _
 generalize w.alloc (.cells ngZ.cells.toArray 28) = w1 at *
 go_upto_region 2 with (first | refine wpList_bld rfl 28 _ rfl _ (by kernel_rfl) (.agg (akN 0).cells.toArray) HB11 ?_ | refine wpList_store_row rfl 28 (.tmp 6) (.tmp 7) rfl w1.heap.size (akN 0).cells.toArray rfl rfl 28 _ (VAt.alloc w1 _ _) HS.out rfl (ng_all _) ?_)
 rw [World.setRow_alloc_new]
 generalize w1.alloc (.cells (akN 0).cells.toArray 28) = W at *
 generalize w1.heap.size = B at *
 obtain ⟨H, hH⟩ : ∃ H, w.heap.size = H := ⟨_, rfl⟩
 have c1 : W.cell? ⟨B, 1, none⟩ = some (.int .i64 0) := VAt.cell HN.1 1
 have f1 := VAt.free HN.1 1
 have HX : Hid (BI w W B (akN 0)) := HN
 rw [hH]
 have HH : Hid (w.heap.size = H) := hH
 clear HN hH HS
 go_upto_region 29 with fail
 have HX0 : Hid (BI w (W.setCell ⟨B, 1, none⟩ (.int .i64 3)) B (akN 3)) := HX.out.set (z := akN 3) 1 (.int .i64 3) rfl
 generalize W.setCell ⟨B, 1, none⟩ (.int .i64 3) = W0 at *
 clear c1 f1
 have c1 : W0.cell? ⟨B, 1, none⟩ = some (.int .i64 3) := VAt.cell HX0.out.1 1
 have f1 := VAt.free HX0.out.1 1
 go_upto_region 34 with fail
 have HX1 : Hid (BI w (W0.setCell ⟨B, 1, none⟩ (.int .i64 5)) B (akN 5)) := HX0.out.set (z := akN 5) 1 (.int .i64 5) rfl
 generalize W0.setCell ⟨B, 1, none⟩ (.int .i64 5) = W1 at *
 clear c1 f1
 obtain ⟨Y, hY⟩ : ∃ Y, (akN 5).cells.toArray = Y := ⟨_, rfl⟩
 have HY : Hid ((Tryz.prog.info? 28).map (·.size) = some Y.size ∧ ngZ.cells.toArray.size = Y.size ∧ Y.all (·.oneCell') = true) := by rw [← hY]; exact ⟨ng_size _, rfl, ng_all _⟩
 have HV : Hid (VAt W1 B 28 Y ∧ VAt W1 H 28 ngZ.cells.toArray ∧ w.grownBy W1 none) := by rw [← hY, ← HH.out]; exact ⟨HX1.out.1, HX1.out.2.1, HX1.out.2.2.1⟩
 have HYE : Hid ((akN 5).cells.toArray = Y) := hY
 have HE : Hid (w.heap.size ≤ H) := Nat.le_of_eq HH.out
 clear hY HX HX0 HX1 HH
 go_wp2_with (first | refine wpList_load_row rfl 28 (.tmp 6) rfl B rfl 28 Y (0, 0) _ HV.out.1 Tryz.underlying28 rfl HY.out.1 ?_ | refine wpList_store_row rfl 28 (.tmp 4) (.tmp 85) rfl H Y rfl rfl 28 _ HV.out.2.1 HY.out.1 HY.out.2.1 HY.out.2.2 ?_)
 refine bodyPost_ret (ret_rowT rfl _ _ H Y _ rfl (VAt.setRow HV.out.2.1 _) Tryz.underlying28 rfl HY.out.1) rfl ?_
 exact ⟨by rw [HYE.out]; rfl, vgrown_setRow HV.out.2.2 H _ (.inr HE.out)⟩
theorem bin_any (x : Nat) (hx : x < 10) (w : World) : Calls Tryz.prog 5 #[.int .i64 (rw11 x), str (sg x)] w fun e w' => e = .returned (.tuple #[.agg (akN (op11 x)).cells.toArray, .bool true]) ∧ w.grownBy w' none := by
 have : x = 0 ∨ x = 1 ∨ x = 2 ∨ x = 3 ∨ x = 4 ∨ x = 5 ∨ x = 6 ∨ x = 7 ∨ x = 8 ∨ x = 9 := by omega
 rcases this with rfl | rfl | rfl | rfl | rfl | rfl | rfl | rfl | rfl | rfl
 ·exact bin_0 w
 ·exact bin_1 w
 ·exact bin_2 w
 ·exact bin_3 w
 ·exact bin_4 w
 ·exact bin_5 w
 ·exact bin_6 w
 ·exact bin_7 w
 ·exact bin_8 w
 ·exact bin_9 w

end Go.Proofs.YtghbbephhoniaaaGreatDoor
