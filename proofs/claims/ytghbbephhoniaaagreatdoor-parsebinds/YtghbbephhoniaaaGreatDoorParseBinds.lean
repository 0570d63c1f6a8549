/-
 For every five numbers (of such size as the form itself says of each argument) riddlelaw11.ParseBinds returns true and leaves what was there as it was: no condition of ours.
-/
import Derived.Test.YtghbbephhoniaaaGreatDoorAb
import Derived.Test.YtghbbephhoniaaaGreatDoorLotP17
import Derived.Test.YtghbbephhoniaaaGreatDoorLotP34
import Derived.Test.YtghbbephhoniaaaGreatDoorLotP50
import Derived.Test.YtghbbephhoniaaaGreatDoorLotP6
import Derived.Deep.DeepCutAuto
namespace Go.Proofs.YtghbbephhoniaaaGreatDoor
open Go.ChangeShapes Go.WideShapes Go.ChangeAt Go.RowKit
open Go.ChangeMaps (open_string shut_string)
set_option maxRecDepth 100000
namespace parseBinds
def sgC : List Value := sgA.map str
def rwC : List Value := rwA.map (.int .i64)
theorem lit_sg (W : World) : (Instr.buildSlice 23 10 #[(0, str [124]), (1, str [94]), (2, str [38]), (3, str [60, 60]), (4, str [62, 62]), (5, str [43]), (6, str [45]), (7, str [42]), (8, str [47]), (9, str [37])]).run Tryz.prog W = .ok (.slice (some ⟨W.heap.size, 0, none⟩) 10 10) (W.alloc (.cells sgC.toArray 9)) := by kernel_rfl
theorem lit_rw (W : World) : (Instr.buildSlice 24 10 #[(0, .int .i64 5), (1, .int .i64 6), (2, .int .i64 7), (3, .int .i64 8), (4, .int .i64 8), (5, .int .i64 9), (6, .int .i64 9), (7, .int .i64 10), (8, .int .i64 10), (9, .int .i64 10)]).run Tryz.prog W = .ok (.slice (some ⟨W.heap.size, 0, none⟩) 10 10) (W.alloc (.cells rwC.toArray 3)) := by kernel_rfl
theorem sg_get : ∀ x : Fin 10, sgC[x.val]? = some (.string ⟨(sg x.val).toArray⟩) ∧ rwC[x.val]? = some (.int .i64 (rw11 x.val)) := by
 intro x
 match x with
 | ⟨0, _⟩ => exact ⟨rfl, rfl⟩
 | ⟨1, _⟩ => exact ⟨rfl, rfl⟩
 | ⟨2, _⟩ => exact ⟨rfl, rfl⟩
 | ⟨3, _⟩ => exact ⟨rfl, rfl⟩
 | ⟨4, _⟩ => exact ⟨rfl, rfl⟩
 | ⟨5, _⟩ => exact ⟨rfl, rfl⟩
 | ⟨6, _⟩ => exact ⟨rfl, rfl⟩
 | ⟨7, _⟩ => exact ⟨rfl, rfl⟩
 | ⟨8, _⟩ => exact ⟨rfl, rfl⟩
 | ⟨9, _⟩ => exact ⟨rfl, rfl⟩
theorem lit_n3 (a b c : Nat) (W : World) : (Instr.buildSlice 31 3 #[(0, .agg (nmN a).cells.toArray), (1, .agg (nmN b).cells.toArray), (2, .agg (nmN c).cells.toArray)]).run Tryz.prog W = .ok (.slice (some ⟨W.heap.size, 0, none⟩) 3 3) (W.alloc (.cells (flatG [nmN a, nmN b, nmN c]).toArray 28)) := by kernel_rfl
theorem lit_s3 (a b c : ByteArray) (W : World) : (Instr.buildSlice 23 3 #[(0, .string a), (1, .string b), (2, .string c)]).run Tryz.prog W = .ok (.slice (some ⟨W.heap.size, 0, none⟩) 3 3) (W.alloc (.cells [Value.string a, Value.string b, Value.string c].toArray 9)) := by kernel_rfl
theorem lit_n5 (a b c d e : Ng) (W : World) : (Instr.buildSlice 31 5 #[(0, .agg a.cells.toArray), (1, .agg b.cells.toArray), (2, .agg c.cells.toArray), (3, .agg d.cells.toArray), (4, .agg e.cells.toArray)]).run Tryz.prog W = .ok (.slice (some ⟨W.heap.size, 0, none⟩) 5 5) (W.alloc (.cells (flatG [a, b, c, d, e]).toArray 28)) := by kernel_rfl
theorem own_litB (w : World) (e size n : Nat) (cs : List Value) (h : cs.length = n * size) (hn : n ≤ maxLen) : (w.alloc (.cells cs.toArray e)).ownsRow w.heap.size e size (.slice (some ⟨w.heap.size, 0, none⟩) n n) n cs := by
 have := World.ownsRow_lit (base := w.heap.size) (e := e) (size := size) w cs.toArray n (Nat.le_refl _) hn (by simpa using h)
 simpa using this
theorem step_store_rowB {P : Program} {ops : Array Oper} {o : Oper} {a : Act} {w : World} {K : Act → World → Prop} {Q : Exit → Act → World → Prop} {E : Prop}
  (hgd : o.guard = none) (ty : TypeId) (x y : Operand) (ho : o.op = .store ty x y) (g : Nat) (cells : Array Value) (hx : a.eval x = .pointer (some ⟨g, 0, none⟩)) (hy : a.eval y = .agg cells) (t : TypeId) (old : Array Value) (A : VAt w g t old)
  (hi : (P.info? ty).map (·.size) = some cells.size) (hold : old.size = cells.size) (h1 : cells.all (·.oneCell') = true) (hK : K (a.put o.dst undef) (w.setRow g cells)) :
  if Region.wanted o (yielded ops a.tmps) = true then Oper.wp P o a w K Q else E := by
 have hw : Region.wanted o (yielded ops a.tmps) = true := by simp [Region.wanted, hgd]
 rw [if_pos hw]
 exact wp_store_row ty x y ho g cells hx hy t old A hi hold h1 hK
/-- A literal slice in a statement whose order is open: a row of its own. -/
theorem step_litO {P : Program} {ops : Array Oper} {o : Oper} {a : Act} {w : World} {K : Act → World → Prop} {Q : Exit → Act → World → Prop} {E : Prop}
  (hw : Region.wanted o (yielded ops a.tmps) = true) (t : TypeId) (n : Nat) (ps : Array (Nat × Operand)) (ho : o.op = .buildSlice t n ps) (qs : Array (Nat × Value)) (hq : ps.map (fun (i, x) => (i, a.eval x)) = qs) (cs : List Value) (e : TypeId)
  (hr : ∀ W : World, (Instr.buildSlice t n qs).run P W = .ok (.slice (some ⟨W.heap.size, 0, none⟩) n n) (W.alloc (.cells cs.toArray e))) (size : Nat) (hl : cs.length = n * size) (hn : n ≤ maxLen)
  (hK : ∀ Z w', w.heap.size ≤ Z → w'.ownsRow Z e size (.slice (some ⟨Z, 0, none⟩) n n) n cs → w.grownBy w' none → Z < w'.heap.size → K (a.put o.dst (.slice (some ⟨Z, 0, none⟩) n n)) w') :
  if Region.wanted o (yielded ops a.tmps) = true then Oper.wp P o a w K Q else E := by
 rw [if_pos hw]
 unfold Oper.wp execOp
 have hr' := hr w
 rw [← hq] at hr'
 simp only [ho, Sem.run_bind, Sem.run_pure, Result.andThen_ok, hr']
 exact hK _ _ (Nat.le_refl _) (own_litB w e size n cs hl hn) (World.grownBy_alloc _ _ _) (by simp)
theorem cv_cell0 {w : World} {b i : Nat} {vs : List Value} {v : Value} (C : CV w (some ⟨b, 0, none⟩) vs) (h : vs[i]? = some v) : w.cell? ⟨b, i, none⟩ = some v := by
 obtain ⟨hi, rfl⟩ := List.getElem?_eq_some_iff.1 h
 obtain ⟨b', o', e', hc'⟩ := C.addr (k := i) hi
 simp only [Option.some.injEq, Addr.mk.injEq] at e'
 obtain ⟨rfl, rfl, -⟩ := e'
 have := hc' i hi
 rw [Nat.zero_add] at this
 exact this
theorem range_ng {w : World} {b o : Nat} {xs : List Ng} (C : CV w (some ⟨b, o, none⟩) (flatG xs)) {k : Nat} (h : k < xs.length) : w.rangeAt b (o + k * 24) xs[k].cells := by
 obtain ⟨b', o', e', hc'⟩ := CV.ngs C (by omega)
 simp only [Option.some.injEq, Addr.mk.injEq] at e'
 obtain ⟨rfl, rfl, -⟩ := e'
 exact hc' k h
set_option maxRecDepth 100000 in
set_option maxHeartbeats 64000000 in
theorem walk (i j : Int) (a b c : Nat) (w : World) (ha : a ≤ 4294967295) (hb : b ≤ 4294967295) (hc : c ≤ 4294967295) (T : TabB w) :
  Calls Tryz.prog 3 #[.int .i64 i, .int .i64 j, .int .u32 (a : Int), .int .u32 (b : Int), .int .u32 (c : Int)] w fun e w' => e = .returned (.bool true) ∧ w.grownBy w' none := by
 have HT : Hid (TabB w) := T
 clear T
 obtain ⟨li, hli⟩ : ∃ li, lowV i = li := ⟨_, rfl⟩
 obtain ⟨lj, hlj⟩ : ∃ lj, lowV j = lj := ⟨_, rfl⟩
 have HI : Hid (∀ W : World, Calls Tryz.prog 4 #[.int .i64 i] W fun e w' => e = .returned (.int .i64 (li : Int)) ∧ W = w') := fun W => by rw [← hli]; exact low_any i W
 have HJ : Hid (∀ W : World, Calls Tryz.prog 4 #[.int .i64 j] W fun e w' => e = .returned (.int .i64 (lj : Int)) ∧ W = w') := fun W => by rw [← hlj]; exact low_any j W
 have hi := lowV_lt i
 have hj := lowV_lt j
 rw [hli] at hi
 rw [hlj] at hj
 clear hli hlj
 obtain ⟨x, hx⟩ : ∃ x, li % 10 = x := ⟨_, rfl⟩
 obtain ⟨y, hy⟩ : ∃ y, lj % 10 = y := ⟨_, rfl⟩
 have hx10 : x < 10 := by omega
 have hy10 : y < 10 := by omega
 obtain ⟨ns, hp, hns⟩ := bi_parse (a := a) (b := b) (c := c) hx10 hy10 ha hb hc
 have hlen := bi_len (a := a) (b := b) (c := c) hx10 hy10
 have hfl := bi_flat x y a b c
 obtain ⟨FL, hFL⟩ : ∃ FL, (biE x y a b c).flat = FL := ⟨_, rfl⟩
 rw [hFL] at hns hfl
 obtain ⟨A0, hA0⟩ : ∃ A0 : ByteArray, (⟨(dec a).toArray⟩ : ByteArray) = A0 := ⟨_, rfl⟩
 obtain ⟨A1, hA1⟩ : ∃ A1 : ByteArray, (⟨(dec b).toArray⟩ : ByteArray) = A1 := ⟨_, rfl⟩
 obtain ⟨A2, hA2⟩ : ∃ A2 : ByteArray, (⟨(dec c).toArray⟩ : ByteArray) = A2 := ⟨_, rfl⟩
 obtain ⟨bx, hbx⟩ : ∃ bx : ByteArray, (⟨(sg x).toArray⟩ : ByteArray) = bx := ⟨_, rfl⟩
 obtain ⟨by', hby⟩ : ∃ bx : ByteArray, (⟨(sg y).toArray⟩ : ByteArray) = bx := ⟨_, rfl⟩
 have hcat : (A0 ++ bx ++ A1 ++ by' ++ A2 ++ (⟨#[61, 108, 101, 110]⟩ : ByteArray)) = ⟨(biS x y a b c).toArray⟩ := by
  rw [← hA0, ← hA1, ← hA2, ← hbx, ← hby, show (⟨#[61, 108, 101, 110]⟩ : ByteArray) = ⟨([61, 108, 101, 110] : List UInt8).toArray⟩ from rfl, cat, cat, cat, cat, cat]
  rfl
 obtain ⟨SS, hSS⟩ : ∃ SS : ByteArray, (⟨(biS x y a b c).toArray⟩ : ByteArray) = SS := ⟨_, rfl⟩
 rw [hSS] at hcat
 have hsl : sl SS = biS x y a b c := by rw [← hSS]; rfl
 have hsz : SS.size ≤ 70 := by rw [← hSS]; simpa [ByteArray.size] using hlen
 have h7 : FL.length = 7 := by rw [hfl]; split <;> rfl
 have h7n : ns.length = 7 := by rw [← h7, ← hns, List.length_map]
 have HP : Hid (∀ W : World, TabB W → Calls Tryz.prog 7 #[.string SS] W fun e w' => ∃ ao cap vp, e = .returned (.tuple #[.slice ao 7 cap, vp, .int .i64 0, .int .i64 0]) ∧ CV w' ao (flatG FL) ∧ W.grownBy w' none ∧ (∀ ad, ao = some ad → ad.block < w'.heap.size)) := fun W TW => by
  refine (pparse_any SS (by omega) W TW).mono ?_
  rintro e w' ⟨vt, vp, rfl, O, -, G⟩
  rw [hsl, hp] at O ⊢
  simp only [prN, prP, prE] at O ⊢
  obtain ⟨ao, cap, rfl, C, -, -, -, hb, -⟩ := cv_of_row O
  rw [← flatG_g, List.map_map] at C
  refine ⟨ao, cap, vp, by rw [List.length_map, h7n]; rfl, ?_, G, fun ad h => (hb ad h).2⟩
  rw [← hns]
  exact C
 have HD : Hid (∀ W : World, Calls Tryz.prog 6 #[.int .u32 (a : Int)] W fun e w' => e = .returned (.string A0) ∧ W.grownBy w' none) := fun W => by rw [← hA0]; exact dec11_any a ha W
 have HD1 : Hid (∀ W : World, Calls Tryz.prog 6 #[.int .u32 (b : Int)] W fun e w' => e = .returned (.string A1) ∧ W.grownBy w' none) := fun W => by rw [← hA1]; exact dec11_any b hb W
 have HD2 : Hid (∀ W : World, Calls Tryz.prog 6 #[.int .u32 (c : Int)] W fun e w' => e = .returned (.string A2) ∧ W.grownBy w' none) := fun W => by rw [← hA2]; exact dec11_any c hc W
 obtain ⟨rx, hrx⟩ : ∃ r, rw11 x = r := ⟨_, rfl⟩
 obtain ⟨ry, hry⟩ : ∃ r, rw11 y = r := ⟨_, rfl⟩
 have gx := sg_get ⟨x, hx10⟩
 have gy := sg_get ⟨y, hy10⟩
 simp only [hbx, hby, hrx, hry] at gx gy
 have HG : Hid (sgC[x]? = some (.string bx) ∧ rwC[x]? = some (.int .i64 rx) ∧ sgC[y]? = some (.string by') ∧ rwC[y]? = some (.int .i64 ry)) := ⟨gx.1, gx.2, gy.1, gy.2⟩
 obtain ⟨X, hX⟩ : ∃ X, (akN (op11 x)).cells.toArray = X := ⟨_, rfl⟩
 obtain ⟨Y, hY⟩ : ∃ Y, (akN (op11 y)).cells.toArray = Y := ⟨_, rfl⟩
 have HBX : Hid (∀ W : World, Calls Tryz.prog 5 #[.int .i64 rx, .string bx] W fun e w' => e = .returned (.tuple #[.agg X, .bool true]) ∧ W.grownBy w' none) := fun W => by rw [← hrx, ← hbx, ← hX]; exact bin_any x hx10 W
 have HBY : Hid (∀ W : World, Calls Tryz.prog 5 #[.int .i64 ry, .string by'] W fun e w' => e = .returned (.tuple #[.agg Y, .bool true]) ∧ W.grownBy w' none) := fun W => by rw [← hry, ← hby, ← hY]; exact bin_any y hy10 W
 have HSX : Hid ((Tryz.prog.info? 28).map (·.size) = some X.size ∧ 24 = X.size ∧ X.all (·.oneCell') = true) := by rw [← hX]; exact ⟨ng_size _, rfl, ng_all _⟩
 have HSY : Hid ((Tryz.prog.info? 28).map (·.size) = some Y.size ∧ 24 = Y.size ∧ Y.all (·.oneCell') = true) := by rw [← hY]; exact ⟨ng_size _, rfl, ng_all _⟩
 obtain ⟨NA, hNA⟩ : ∃ X : List Value, (nmN a).cells = X := ⟨_, rfl⟩
 obtain ⟨NB', hNB⟩ : ∃ X : List Value, (nmN b).cells = X := ⟨_, rfl⟩
 obtain ⟨NC, hNC⟩ : ∃ X : List Value, (nmN c).cells = X := ⟨_, rfl⟩
 obtain ⟨LN, hLN⟩ : ∃ X, lnN.cells.toArray = X := ⟨_, rfl⟩
 obtain ⟨EQ, hEQ⟩ : ∃ X, eqN.cells.toArray = X := ⟨_, rfl⟩
 have HB1 : Hid (∀ W : World, (Instr.build 28 #[(0, .int .i64 1), (2, .int .u32 (a : Int))]).run Tryz.prog W = .ok (.agg NA.toArray) W) := fun W => by rw [← hNA]; kernel_rfl
 have HB2 : Hid (∀ W : World, (Instr.build 28 #[(0, .int .i64 1), (2, .int .u32 (b : Int))]).run Tryz.prog W = .ok (.agg NB'.toArray) W) := fun W => by rw [← hNB]; kernel_rfl
 have HB3 : Hid (∀ W : World, (Instr.build 28 #[(0, .int .i64 1), (2, .int .u32 (c : Int))]).run Tryz.prog W = .ok (.agg NC.toArray) W) := fun W => by rw [← hNC]; kernel_rfl
 have HB4 : Hid (∀ W : World, (Instr.build 28 #[(0, .int .i64 2)]).run Tryz.prog W = .ok (.agg LN) W) := fun W => by rw [← hLN]; kernel_rfl
 have HB5 : Hid (∀ W : World, (Instr.build 28 #[(0, .int .i64 6), (1, .int .i64 1)]).run Tryz.prog W = .ok (.agg EQ) W) := fun W => by rw [← hEQ]; kernel_rfl
 have HL3 : Hid (∀ W : World, (Instr.buildSlice 31 3 #[(0, .agg NA.toArray), (1, .agg NB'.toArray), (2, .agg NC.toArray)]).run Tryz.prog W = .ok (.slice (some ⟨W.heap.size, 0, none⟩) 3 3) (W.alloc (.cells (flatG [nmN a, nmN b, nmN c]).toArray 28))) := fun W => by rw [← hNA, ← hNB, ← hNC]; exact lit_n3 a b c W
 have HL2 : Hid (∀ W : World, (Instr.buildSlice 31 2 #[(0, .agg LN), (1, .agg EQ)]).run Tryz.prog W = .ok (.slice (some ⟨W.heap.size, 0, none⟩) 2 2) (W.alloc (.cells (flatG [lnN, eqN]).toArray 28))) := fun W => by rw [← hLN, ← hEQ]; exact lit_n2 lnN eqN W
 have HL5 : Hid (∀ W : World, (Instr.buildSlice 31 5 #[(0, .agg NA.toArray), (1, .agg NB'.toArray), (2, .agg X), (3, .agg NC.toArray), (4, .agg Y)]).run Tryz.prog W = .ok (.slice (some ⟨W.heap.size, 0, none⟩) 5 5) (W.alloc (.cells (flatG [nmN a, nmN b, akN (op11 x), nmN c, akN (op11 y)]).toArray 28))) := fun W => by rw [← hNA, ← hNB, ← hNC, ← hX, ← hY]; exact lit_n5 _ _ _ _ _ W
 have HM5 : Hid (∀ W : World, (Instr.buildSlice 31 5 #[(0, .agg NA.toArray), (1, .agg NB'.toArray), (2, .agg NC.toArray), (3, .agg Y), (4, .agg X)]).run Tryz.prog W = .ok (.slice (some ⟨W.heap.size, 0, none⟩) 5 5) (W.alloc (.cells (flatG [nmN a, nmN b, nmN c, akN (op11 y), akN (op11 x)]).toArray 28))) := fun W => by rw [← hNA, ← hNB, ← hNC, ← hX, ← hY]; exact lit_n5 _ _ _ _ _ W
 have HR3 : Hid (∀ (W : World) (Nn : Nat), CV W (some ⟨Nn, 0, none⟩) (flatG [nmN a, nmN b, nmN c]) → W.rangeAt Nn 0 NA ∧ W.rangeAt Nn 24 NB' ∧ W.rangeAt Nn 48 NC) := fun W Nn C => by
  have r0 := range_ng C (k := 0) (by simp)
  have r1 := range_ng C (k := 1) (by simp)
  have r2 := range_ng C (k := 2) (by simp)
  rw [← hNA, ← hNB, ← hNC]
  exact ⟨r0, r1, r2⟩
 have HSN : Hid ((Tryz.prog.info? 28).map (·.size) = some NA.length ∧ (Tryz.prog.info? 28).map (·.size) = some NB'.length ∧ (Tryz.prog.info? 28).map (·.size) = some NC.length) := by
  rw [← hNA, ← hNB, ← hNC]; exact ⟨ng_len _, ng_len _, ng_len _⟩
 have HFL : Hid (if rx < ry then FL = [nmN a, nmN b, nmN c, akN (op11 y), akN (op11 x)] ++ [lnN, eqN] else FL = [nmN a, nmN b, akN (op11 x), nmN c, akN (op11 y)] ++ [lnN, eqN]) := by
  rw [← hrx, ← hry]
  show if rw11 x < rw11 y then _ else _
  split
  ·rename_i h; rw [hfl, if_pos h]; rfl
  ·rename_i h; rw [hfl, if_neg h]; rfl
 have HFN : Hid (FL.length = 7) := h7
 have HX : Hid (li % 10 = x ∧ lj % 10 = y) := ⟨hx, hy⟩
 have x0 : (0 : Int) ≤ (x : Int) := by omega
 have x1 : (x : Int) < 10 := by omega
 have y0 : (0 : Int) ≤ (y : Int) := by omega
 have y1 : (y : Int) < 10 := by omega
 have HCAT : Hid ((A0 ++ bx ++ A1 ++ by' ++ A2 ++ (⟨#[61, 108, 101, 110]⟩ : ByteArray)) = SS) := hcat
 have HSUM : Hid (A0.size + bx.size + A1.size + by'.size + A2.size ≤ 70) := by
  have h := congrArg ByteArray.size hcat
  simp only [ByteArray.size_append] at h
  show _ ≤ _
  omega
 clear hcat hSS hsl hsz hlen hp hns hfl hFL h7 h7n hA0 hA1 hA2 hbx hby hrx hry gx gy hX hY hNA hNB hNC hLN hEQ hx hy
 go_enter Tryz.func3, Tryz.ntmps3
 go_wp2_with (first | (refine wpList_lit (by rfl) 23 10 _ rfl _ (by kernel_rfl) sgC 9 lit_sg ?_; intro S w1 CS K1) | (refine wpList_lit (by rfl) 24 10 _ rfl _ (by kernel_rfl) rwC 3 lit_rw ?_; intro R w2 CR K2))
 refine (HI.out _).mono ?_
 rintro e _ ⟨rfl, rfl⟩
 go_wp2_with fail
 refine (HJ.out _).mono ?_
 rintro e _ ⟨rfl, rfl⟩
 go_upto_region 4 with fail
 rw [show ((li : Int) % 10) = (x : Int) by have := HX.out; omega, show ((lj : Int) % 10) = (y : Int) by have := HX.out; omega]
 have HC2 : Hid (CV w2 (some ⟨S, 0, none⟩) sgC ∧ CV w2 (some ⟨R, 0, none⟩) rwC ∧ w.grownBy w2 none) := ⟨CS.keptNone K2, CR, grown_trans K1 K2⟩
 clear CS CR K1 K2 HI HJ hi hj HX
 have HCL : Hid (∀ W' : World, w2.grownBy W' none → W'.cell? ⟨R, x, none⟩ = some (.int .i64 rx) ∧ W'.cell? ⟨S, x, none⟩ = some (.string bx)) := fun W' G => ⟨cv_cell0 (HC2.out.2.1.keptNone G) HG.out.2.1, cv_cell0 (HC2.out.1.keptNone G) HG.out.1⟩
 go_cut [15, 16] from 34 to 45 (fun t u wx => u = .bool true ∧ w2.grownBy wx none ∧ ∃ P, t = .pointer (some ⟨P, 0, none⟩) ∧ VAt wx P 28 X)
 case first =>
  refine wp_region_held_drew (S := fun W' => w2.grownBy W' none) (by kernel_rfl) (grown_drewN w2 1 none) (fun hHeld => ?_)
  generalize w2.drew = wd at *
  refine wpT (i := 0) (v := .slice (some ⟨R, 0, none⟩) 10 10) rfl (Or.inl ⟨by rfl, fun W hW => ?_⟩) hHeld ?_
  ·clear hW
   go_simp
  try simp only [Act.put, a0, a1, a3, a4, a5]
  refine wpT (i := 1) (v := .int .i64 (x : Int)) rfl (Or.inl ⟨by rfl, fun W hW => ?_⟩) hHeld ?_
  ·clear hW
   go_simp
  try simp only [Act.put, a0, a1, a2, a3, a4, a5]
  refine wpT (i := 2) (v := .pointer (some ⟨R, x, none⟩)) rfl (Or.inl ⟨by rfl, fun W hW => ?_⟩) hHeld ?_
  ·clear hW
   go_simp
  try simp only [Act.put, a0, a1, a2, a3, a4, a5]
  refine wpT (i := 3) (v := .int .i64 rx) rfl (Or.inl ⟨by rfl, fun W hW => ?_⟩) hHeld ?_
  ·have c1 := (HCL.out W hW).1
   clear hW
   go_simp
  try simp only [Act.put, a0, a1, a2, a3, a4, a5]
  refine wpT (i := 4) (v := .slice (some ⟨S, 0, none⟩) 10 10) rfl (Or.inl ⟨by rfl, fun W hW => ?_⟩) hHeld ?_
  ·clear hW
   go_simp
  try simp only [Act.put, a0, a1, a2, a3, a4, a5]
  refine wpT (i := 5) (v := .int .i64 (x : Int)) rfl (Or.inl ⟨by rfl, fun W hW => ?_⟩) hHeld ?_
  ·clear hW
   go_simp
  try simp only [Act.put, a0, a1, a2, a3, a4, a5]
  refine wpT (i := 6) (v := .pointer (some ⟨S, x, none⟩)) rfl (Or.inl ⟨by rfl, fun W hW => ?_⟩) hHeld ?_
  ·clear hW
   go_simp
  try simp only [Act.put, a0, a1, a2, a3, a4, a5]
  refine wpT (i := 7) (v := .string bx) rfl (Or.inl ⟨by rfl, fun W hW => ?_⟩) hHeld ?_
  ·have c1 := (HCL.out W hW).2
   clear hW
   go_simp
  try simp only [Act.put, a0, a1, a2, a3, a4, a5]
  clear HCL
  refine wpR (rs := [8, 12]) (AllReadyH.cons rfl (fun K hK => ?_) (AllReadyH.cons rfl (fun K hK => ?_) AllReadyH.nil))
  ·skip
   go_simp
   refine (HBX.out _).mono ?_
   rintro e wc ⟨rfl, Kc⟩
   go_wp2_with fail
   refine hK.out _ _ (grown_trans hHeld Kc) (fun hHeld => ?_)
   clear hK K Kc
   try simp only [Act.put, a0, a1, a2, a3, a4, a5]
   refine wpT (i := 9) (v := .tuple #[.agg X, .bool true]) rfl (Or.inl ⟨by rfl, fun W hW => ?_⟩) hHeld ?_
   ·clear hW
    go_simp
   try simp only [Act.put, a0, a1, a2, a3, a4, a5]
   refine wpT (i := 10) (v := .agg X) rfl (Or.inl ⟨by rfl, fun W hW => ?_⟩) hHeld ?_
   ·clear hW
    go_simp
   try simp only [Act.put, a0, a1, a2, a3, a4, a5]
   refine wpT (i := 11) (v := .bool true) rfl (Or.inl ⟨by rfl, fun W hW => ?_⟩) hHeld ?_
   ·clear hW
    go_simp
   try simp only [Act.put, a0, a1, a2, a3, a4, a5]
   refine wpR (rs := [12]) (AllReadyH.cons rfl (fun K hK => ?_) AllReadyH.nil)
   go_simp
   have hHold : Hid (w2.grownBy wc none) := hHeld
   refine hK.out _ _ (grown_trans hHeld (World.grownBy_alloc _ _ none)) (fun hHeld => ?_)
   clear hK K
   try simp only [Act.put, a0, a1, a2, a3, a4, a5]
   refine wpR (rs := [13]) (AllReadyH.cons rfl (fun K hK => ?_) AllReadyH.nil)
   refine step_store_rowB (by rfl) 28 (.tmp 15) (.tmp 44) (by rfl) wc.heap.size X (by rfl) (by rfl) 28 _ (VAt.alloc wc _ _) HSX.out.1 HSX.out.2.1 HSX.out.2.2 ?_
   rw [World.setRow_alloc_new]
   refine hK.out _ _ (grown_trans hHold.out (World.grownBy_alloc _ _ none)) (fun hHeld => ?_)
   clear hK K hHold
   try simp only [Act.put, List.getElem_toArray, List.getElem_cons_zero, List.getElem_cons_succ]
   have VX := VAt.alloc wc 28 X
   generalize wc.alloc (.cells X 28) = we at *
   generalize wc.heap.size = P0 at *
   refine wpT (i := 14) (v := .bool true) rfl (Or.inl ⟨by rfl, fun W hW => ?_⟩) hHeld ?_
   ·clear hW
    go_simp
   try simp only [Act.put, a0, a1, a2, a3, a4, a5]
   refine wpAnyH_done (by kernel_rfl) ?_ _
   have HZ : Hid (w2.grownBy _ none ∧ VAt _ P0 28 X) := ⟨hHeld, VX⟩
   go_wp2
   go_meet
   exact ⟨rfl, HZ.out.1, _, rfl, HZ.out.2⟩
  ·skip
   go_simp
   have VX := VAt.alloc wd 28 #[.int .i64 0, .int .i64 0, .int .u32 0, .int .u32 0, .int .i64 0, .int .i64 0, .int .i64 0, .int .u8 0, .int .u8 0, .int .u8 0, .int .u8 0, .int .u8 0, .int .u8 0, .int .u8 0, .int .u8 0, .int .u8 0, .int .u8 0, .int .u8 0, .int .u8 0, .int .u8 0, .int .u8 0, .int .u8 0, .int .u8 0, .int .i64 0]
   have hP := hHeld.size
   refine hK.out _ _ (grown_trans hHeld (World.grownBy_alloc _ _ none)) (fun hHeld => ?_)
   clear hK K
   try simp only [Act.put, a0, a1, a2, a3, a4, a5]
   generalize wd.alloc _ = we at *
   generalize wd.heap.size = P0 at *
   refine wpR (rs := [8]) (AllReadyH.cons rfl (fun K hK => ?_) AllReadyH.nil)
   go_simp
   refine (HBX.out _).mono ?_
   rintro e wc ⟨rfl, Kc⟩
   have VY := VX.kept Kc
   go_wp2_with fail
   refine hK.out _ _ (grown_trans hHeld Kc) (fun hHeld => ?_)
   clear hK K Kc VX
   try simp only [Act.put, a0, a1, a2, a3, a4, a5]
   refine wpT (i := 9) (v := .tuple #[.agg X, .bool true]) rfl (Or.inl ⟨by rfl, fun W hW => ?_⟩) hHeld ?_
   ·clear hW
    go_simp
   try simp only [Act.put, a0, a1, a2, a3, a4, a5]
   refine wpT (i := 10) (v := .agg X) rfl (Or.inl ⟨by rfl, fun W hW => ?_⟩) hHeld ?_
   ·clear hW
    go_simp
   try simp only [Act.put, a0, a1, a2, a3, a4, a5]
   refine wpT (i := 11) (v := .bool true) rfl (Or.inl ⟨by rfl, fun W hW => ?_⟩) hHeld ?_
   ·clear hW
    go_simp
   try simp only [Act.put, a0, a1, a2, a3, a4, a5]
   refine wpR (rs := [13]) (AllReadyH.cons rfl (fun K hK => ?_) AllReadyH.nil)
   refine step_store_rowB (by rfl) 28 (.tmp 15) (.tmp 44) (by rfl) P0 X (by rfl) (by rfl) 28 _ VY HSX.out.1 HSX.out.2.1 HSX.out.2.2 ?_
   refine hK.out _ _ (vgrown_setRow hHeld P0 _ (.inr hP)) (fun hHeld => ?_)
   clear hK K
   try simp only [Act.put, List.getElem_toArray, List.getElem_cons_zero, List.getElem_cons_succ]
   have VX := VY.setRow X
   clear VY hP
   generalize wc.setRow P0 X = we2 at *
   refine wpT (i := 14) (v := .bool true) rfl (Or.inl ⟨by rfl, fun W hW => ?_⟩) hHeld ?_
   ·clear hW
    go_simp
   try simp only [Act.put, a0, a1, a2, a3, a4, a5]
   refine wpAnyH_done (by kernel_rfl) ?_ _
   have HZ : Hid (w2.grownBy _ none ∧ VAt _ P0 28 X) := ⟨hHeld, VX⟩
   go_wp2
   go_meet
   exact ⟨rfl, HZ.out.1, _, rfl, HZ.out.2⟩
 case rest =>
 obtain ⟨rfl, GP, P, rfl, VP⟩ := hcut
 generalize hwc : wc = w3 at *
 clear hwc HCL
 have HC3 : Hid (w.grownBy w3 none ∧ w2.grownBy w3 none ∧ VAt w3 P 28 X) := ⟨grown_trans HC2.out.2.2 GP, GP, VP⟩
 clear GP VP
 go_upto_region 5 with fail
 have HCL : Hid (∀ W' : World, w3.grownBy W' none → W'.cell? ⟨R, y, none⟩ = some (.int .i64 ry) ∧ W'.cell? ⟨S, y, none⟩ = some (.string by')) := fun W' G => ⟨cv_cell0 (HC2.out.2.1.keptNone (grown_trans HC3.out.2.1 G)) HG.out.2.2.2, cv_cell0 (HC2.out.1.keptNone (grown_trans HC3.out.2.1 G)) HG.out.2.2.1⟩
 go_cut [17, 18] from 46 to 57 (fun t u wx => u = .bool true ∧ w3.grownBy wx none ∧ ∃ P, t = .pointer (some ⟨P, 0, none⟩) ∧ VAt wx P 28 Y)
 case first =>
  refine wp_region_held_drew (S := fun W' => w3.grownBy W' none) (by kernel_rfl) (grown_drewN w3 1 none) (fun hHeld => ?_)
  generalize w3.drew = wd at *
  refine wpT (i := 0) (v := .slice (some ⟨R, 0, none⟩) 10 10) rfl (Or.inl ⟨by rfl, fun W hW => ?_⟩) hHeld ?_
  ·clear hW
   go_simp
  try simp only [Act.put, a0, a1, a3, a4, a5]
  refine wpT (i := 1) (v := .int .i64 (y : Int)) rfl (Or.inl ⟨by rfl, fun W hW => ?_⟩) hHeld ?_
  ·clear hW
   go_simp
  try simp only [Act.put, a0, a1, a2, a3, a4, a5]
  refine wpT (i := 2) (v := .pointer (some ⟨R, y, none⟩)) rfl (Or.inl ⟨by rfl, fun W hW => ?_⟩) hHeld ?_
  ·clear hW
   go_simp
  try simp only [Act.put, a0, a1, a2, a3, a4, a5]
  refine wpT (i := 3) (v := .int .i64 ry) rfl (Or.inl ⟨by rfl, fun W hW => ?_⟩) hHeld ?_
  ·have c1 := (HCL.out W hW).1
   clear hW
   go_simp
  try simp only [Act.put, a0, a1, a2, a3, a4, a5]
  refine wpT (i := 4) (v := .slice (some ⟨S, 0, none⟩) 10 10) rfl (Or.inl ⟨by rfl, fun W hW => ?_⟩) hHeld ?_
  ·clear hW
   go_simp
  try simp only [Act.put, a0, a1, a2, a3, a4, a5]
  refine wpT (i := 5) (v := .int .i64 (y : Int)) rfl (Or.inl ⟨by rfl, fun W hW => ?_⟩) hHeld ?_
  ·clear hW
   go_simp
  try simp only [Act.put, a0, a1, a2, a3, a4, a5]
  refine wpT (i := 6) (v := .pointer (some ⟨S, y, none⟩)) rfl (Or.inl ⟨by rfl, fun W hW => ?_⟩) hHeld ?_
  ·clear hW
   go_simp
  try simp only [Act.put, a0, a1, a2, a3, a4, a5]
  refine wpT (i := 7) (v := .string by') rfl (Or.inl ⟨by rfl, fun W hW => ?_⟩) hHeld ?_
  ·have c1 := (HCL.out W hW).2
   clear hW
   go_simp
  try simp only [Act.put, a0, a1, a2, a3, a4, a5]
  clear HCL
  refine wpR (rs := [8, 12]) (AllReadyH.cons rfl (fun K hK => ?_) (AllReadyH.cons rfl (fun K hK => ?_) AllReadyH.nil))
  ·skip
   go_simp
   refine (HBY.out _).mono ?_
   rintro e wc ⟨rfl, Kc⟩
   go_wp2_with fail
   refine hK.out _ _ (grown_trans hHeld Kc) (fun hHeld => ?_)
   clear hK K Kc
   try simp only [Act.put, a0, a1, a2, a3, a4, a5]
   refine wpT (i := 9) (v := .tuple #[.agg Y, .bool true]) rfl (Or.inl ⟨by rfl, fun W hW => ?_⟩) hHeld ?_
   ·clear hW
    go_simp
   try simp only [Act.put, a0, a1, a2, a3, a4, a5]
   refine wpT (i := 10) (v := .agg Y) rfl (Or.inl ⟨by rfl, fun W hW => ?_⟩) hHeld ?_
   ·clear hW
    go_simp
   try simp only [Act.put, a0, a1, a2, a3, a4, a5]
   refine wpT (i := 11) (v := .bool true) rfl (Or.inl ⟨by rfl, fun W hW => ?_⟩) hHeld ?_
   ·clear hW
    go_simp
   try simp only [Act.put, a0, a1, a2, a3, a4, a5]
   refine wpR (rs := [12]) (AllReadyH.cons rfl (fun K hK => ?_) AllReadyH.nil)
   go_simp
   have hHold : Hid (w3.grownBy wc none) := hHeld
   refine hK.out _ _ (grown_trans hHeld (World.grownBy_alloc _ _ none)) (fun hHeld => ?_)
   clear hK K
   try simp only [Act.put, a0, a1, a2, a3, a4, a5]
   refine wpR (rs := [13]) (AllReadyH.cons rfl (fun K hK => ?_) AllReadyH.nil)
   refine step_store_rowB (by rfl) 28 (.tmp 17) (.tmp 56) (by rfl) wc.heap.size Y (by rfl) (by rfl) 28 _ (VAt.alloc wc _ _) HSY.out.1 HSY.out.2.1 HSY.out.2.2 ?_
   rw [World.setRow_alloc_new]
   refine hK.out _ _ (grown_trans hHold.out (World.grownBy_alloc _ _ none)) (fun hHeld => ?_)
   clear hK K hHold
   try simp only [Act.put, List.getElem_toArray, List.getElem_cons_zero, List.getElem_cons_succ]
   have VX := VAt.alloc wc 28 Y
   generalize wc.alloc (.cells Y 28) = we at *
   generalize wc.heap.size = P0 at *
   refine wpT (i := 14) (v := .bool true) rfl (Or.inl ⟨by rfl, fun W hW => ?_⟩) hHeld ?_
   ·clear hW
    go_simp
   try simp only [Act.put, a0, a1, a2, a3, a4, a5]
   refine wpAnyH_done (by kernel_rfl) ?_ _
   have HZ : Hid (w3.grownBy _ none ∧ VAt _ P0 28 Y) := ⟨hHeld, VX⟩
   go_wp2
   go_meet
   exact ⟨rfl, HZ.out.1, _, rfl, HZ.out.2⟩
  ·skip
   go_simp
   have VX := VAt.alloc wd 28 #[.int .i64 0, .int .i64 0, .int .u32 0, .int .u32 0, .int .i64 0, .int .i64 0, .int .i64 0, .int .u8 0, .int .u8 0, .int .u8 0, .int .u8 0, .int .u8 0, .int .u8 0, .int .u8 0, .int .u8 0, .int .u8 0, .int .u8 0, .int .u8 0, .int .u8 0, .int .u8 0, .int .u8 0, .int .u8 0, .int .u8 0, .int .i64 0]
   have hP := hHeld.size
   refine hK.out _ _ (grown_trans hHeld (World.grownBy_alloc _ _ none)) (fun hHeld => ?_)
   clear hK K
   try simp only [Act.put, a0, a1, a2, a3, a4, a5]
   generalize wd.alloc _ = we at *
   generalize wd.heap.size = P0 at *
   refine wpR (rs := [8]) (AllReadyH.cons rfl (fun K hK => ?_) AllReadyH.nil)
   go_simp
   refine (HBY.out _).mono ?_
   rintro e wc ⟨rfl, Kc⟩
   have VY := VX.kept Kc
   go_wp2_with fail
   refine hK.out _ _ (grown_trans hHeld Kc) (fun hHeld => ?_)
   clear hK K Kc VX
   try simp only [Act.put, a0, a1, a2, a3, a4, a5]
   refine wpT (i := 9) (v := .tuple #[.agg Y, .bool true]) rfl (Or.inl ⟨by rfl, fun W hW => ?_⟩) hHeld ?_
   ·clear hW
    go_simp
   try simp only [Act.put, a0, a1, a2, a3, a4, a5]
   refine wpT (i := 10) (v := .agg Y) rfl (Or.inl ⟨by rfl, fun W hW => ?_⟩) hHeld ?_
   ·clear hW
    go_simp
   try simp only [Act.put, a0, a1, a2, a3, a4, a5]
   refine wpT (i := 11) (v := .bool true) rfl (Or.inl ⟨by rfl, fun W hW => ?_⟩) hHeld ?_
   ·clear hW
    go_simp
   try simp only [Act.put, a0, a1, a2, a3, a4, a5]
   refine wpR (rs := [13]) (AllReadyH.cons rfl (fun K hK => ?_) AllReadyH.nil)
   refine step_store_rowB (by rfl) 28 (.tmp 17) (.tmp 56) (by rfl) P0 Y (by rfl) (by rfl) 28 _ VY HSY.out.1 HSY.out.2.1 HSY.out.2.2 ?_
   refine hK.out _ _ (vgrown_setRow hHeld P0 _ (.inr hP)) (fun hHeld => ?_)
   clear hK K
   try simp only [Act.put, List.getElem_toArray, List.getElem_cons_zero, List.getElem_cons_succ]
   have VX := VY.setRow Y
   clear VY hP
   generalize wc.setRow P0 Y = we2 at *
   refine wpT (i := 14) (v := .bool true) rfl (Or.inl ⟨by rfl, fun W hW => ?_⟩) hHeld ?_
   ·clear hW
    go_simp
   try simp only [Act.put, a0, a1, a2, a3, a4, a5]
   refine wpAnyH_done (by kernel_rfl) ?_ _
   have HZ : Hid (w3.grownBy _ none ∧ VAt _ P0 28 Y) := ⟨hHeld, VX⟩
   go_wp2
   go_meet
   exact ⟨rfl, HZ.out.1, _, rfl, HZ.out.2⟩
 case rest =>
 obtain ⟨rfl, GQ, Q, rfl, VQ⟩ := hcut
 generalize hwc : wc = w4 at *
 clear hwc HCL
 have HC4 : Hid (w.grownBy w4 none ∧ w2.grownBy w4 none ∧ VAt w4 P 28 X ∧ VAt w4 Q 28 Y) := ⟨grown_trans HC3.out.1 GQ, grown_trans HC3.out.2.1 GQ, HC3.out.2.2.kept GQ, VQ⟩
 clear GQ VQ HC3 HBX HBY
 go_wp2_with (first | refine wpList_bld rfl 28 #[(0, .const (.int .i64 1)), (2, .tmp 58)] rfl _ (by kernel_rfl) (.agg NA.toArray) HB1.out ?_ | refine wpList_bld rfl 28 #[(0, .const (.int .i64 1)), (2, .tmp 60)] rfl _ (by kernel_rfl) (.agg NB'.toArray) HB2.out ?_ | refine wpList_bld rfl 28 #[(0, .const (.int .i64 1)), (2, .tmp 62)] rfl _ (by kernel_rfl) (.agg NC.toArray) HB3.out ?_ | (refine wpList_lit (by rfl) 31 3 _ rfl _ (by kernel_rfl) (flatG [nmN a, nmN b, nmN c]) 28 HL3.out ?_; intro Nn w5 C5 K5))
 refine (HD.out _).mono ?_
 rintro e w6 ⟨rfl, K6⟩
 go_wp2_with fail
 refine (HD1.out _).mono ?_
 rintro e w7 ⟨rfl, K7⟩
 go_wp2_with fail
 refine (HD2.out _).mono ?_
 rintro e w8 ⟨rfl, K8⟩
 go_upto_region 8 with (refine wpList_lit (by rfl) 23 3 _ rfl _ (by kernel_rfl) [Value.string A0, Value.string A1, Value.string A2] 9 (lit_s3 A0 A1 A2) ?_; intro Sn w9 C9 K9)
 have K59 : w5.grownBy w9 none := grown_trans (grown_trans (grown_trans K6 K7) K8) K9
 have K49 : w4.grownBy w9 none := grown_trans K5 K59
 have HC9 : Hid (w.grownBy w9 none ∧ w2.grownBy w9 none ∧ VAt w9 P 28 X ∧ VAt w9 Q 28 Y ∧ CV w9 (some ⟨Nn, 0, none⟩) (flatG [nmN a, nmN b, nmN c]) ∧ CV w9 (some ⟨Sn, 0, none⟩) [Value.string A0, Value.string A1, Value.string A2]) := ⟨grown_trans HC4.out.1 K49, grown_trans HC4.out.2.1 K49, HC4.out.2.2.1.kept K49, HC4.out.2.2.2.kept K49, C5.keptNone K59, C9⟩
 clear HC4 C5 C9 K5 K6 K7 K8 K9 K49 K59 HD HD1 HD2 HB1 HB2 HB3 HL3
 have HST : Hid (∀ W' : World, w9.grownBy W' none → W'.cell? ⟨Sn, 0, none⟩ = some (.string A0) ∧ W'.cell? ⟨Sn, 1, none⟩ = some (.string A1) ∧ W'.cell? ⟨Sn, 2, none⟩ = some (.string A2) ∧ W'.cell? ⟨S, x, none⟩ = some (.string bx) ∧ W'.cell? ⟨S, y, none⟩ = some (.string by')) := fun W' G => ⟨cv_cell0 (HC9.out.2.2.2.2.2.keptNone G) rfl, cv_cell0 (HC9.out.2.2.2.2.2.keptNone G) rfl, cv_cell0 (HC9.out.2.2.2.2.2.keptNone G) rfl, cv_cell0 (HC2.out.1.keptNone (grown_trans HC9.out.2.1 G)) HG.out.1, cv_cell0 (HC2.out.1.keptNone (grown_trans HC9.out.2.1 G)) HG.out.2.2.1⟩
 refine wp_region_held_drew (S := fun W' => w9.grownBy W' none) (by kernel_rfl) (grown_drewN w9 1 none) (fun hHeld => ?_)
 generalize w9.drew = wd at *
 refine wpT (i := 0) (v := .slice (some ⟨Sn, 0, none⟩) 3 3) rfl (Or.inl ⟨by rfl, fun W hW => ?_⟩) hHeld ?_
 ·clear hW
  go_simp
 try simp only [Act.put, a0, a1, a3, a4, a5]
 refine wpT (i := 1) (v := .pointer (some ⟨Sn, 0, none⟩)) rfl (Or.inl ⟨by rfl, fun W hW => ?_⟩) hHeld ?_
 ·clear hW
  go_simp
 try simp only [Act.put, a0, a1, a2, a3, a4, a5]
 refine wpT (i := 2) (v := .string A0) rfl (Or.inl ⟨by rfl, fun W hW => ?_⟩) hHeld ?_
 ·have c1 := (HST.out W hW).1
  clear hW
  go_simp
 try simp only [Act.put, a0, a1, a2, a3, a4, a5]
 refine wpT (i := 3) (v := .slice (some ⟨S, 0, none⟩) 10 10) rfl (Or.inl ⟨by rfl, fun W hW => ?_⟩) hHeld ?_
 ·clear hW
  go_simp
 try simp only [Act.put, a0, a1, a2, a3, a4, a5]
 refine wpT (i := 4) (v := .int .i64 (x : Int)) rfl (Or.inl ⟨by rfl, fun W hW => ?_⟩) hHeld ?_
 ·clear hW
  go_simp
 try simp only [Act.put, a0, a1, a2, a3, a4, a5]
 refine wpT (i := 5) (v := .pointer (some ⟨S, x, none⟩)) rfl (Or.inl ⟨by rfl, fun W hW => ?_⟩) hHeld ?_
 ·clear hW
  go_simp
 try simp only [Act.put, a0, a1, a2, a3, a4, a5]
 refine wpT (i := 6) (v := .string bx) rfl (Or.inl ⟨by rfl, fun W hW => ?_⟩) hHeld ?_
 ·have c1 := (HST.out W hW).2.2.2.1
  clear hW
  go_simp
 try simp only [Act.put, a0, a1, a2, a3, a4, a5]
 refine wpT (i := 7) (v := .string (A0 ++ bx)) rfl (Or.inl ⟨by rfl, fun W hW => ?_⟩) hHeld ?_
 ·clear hW
  go_simp
  have hq := HSUM.out
  omega
 try simp only [Act.put, a0, a1, a2, a3, a4, a5]
 refine wpT (i := 8) (v := .slice (some ⟨Sn, 0, none⟩) 3 3) rfl (Or.inl ⟨by rfl, fun W hW => ?_⟩) hHeld ?_
 ·clear hW
  go_simp
 try simp only [Act.put, a0, a1, a2, a3, a4, a5]
 refine wpT (i := 9) (v := .pointer (some ⟨Sn, 1, none⟩)) rfl (Or.inl ⟨by rfl, fun W hW => ?_⟩) hHeld ?_
 ·clear hW
  go_simp
 try simp only [Act.put, a0, a1, a2, a3, a4, a5]
 refine wpT (i := 10) (v := .string A1) rfl (Or.inl ⟨by rfl, fun W hW => ?_⟩) hHeld ?_
 ·have c1 := (HST.out W hW).2.1
  clear hW
  go_simp
 try simp only [Act.put, a0, a1, a2, a3, a4, a5]
 refine wpT (i := 11) (v := .string (A0 ++ bx ++ A1)) rfl (Or.inl ⟨by rfl, fun W hW => ?_⟩) hHeld ?_
 ·clear hW
  go_simp
  have hq := HSUM.out
  omega
 try simp only [Act.put, a0, a1, a2, a3, a4, a5]
 refine wpT (i := 12) (v := .slice (some ⟨S, 0, none⟩) 10 10) rfl (Or.inl ⟨by rfl, fun W hW => ?_⟩) hHeld ?_
 ·clear hW
  go_simp
 try simp only [Act.put, a0, a1, a2, a3, a4, a5]
 refine wpT (i := 13) (v := .int .i64 (y : Int)) rfl (Or.inl ⟨by rfl, fun W hW => ?_⟩) hHeld ?_
 ·clear hW
  go_simp
 try simp only [Act.put, a0, a1, a2, a3, a4, a5]
 refine wpT (i := 14) (v := .pointer (some ⟨S, y, none⟩)) rfl (Or.inl ⟨by rfl, fun W hW => ?_⟩) hHeld ?_
 ·clear hW
  go_simp
 try simp only [Act.put, a0, a1, a2, a3, a4, a5]
 refine wpT (i := 15) (v := .string by') rfl (Or.inl ⟨by rfl, fun W hW => ?_⟩) hHeld ?_
 ·have c1 := (HST.out W hW).2.2.2.2
  clear hW
  go_simp
 try simp only [Act.put, a0, a1, a2, a3, a4, a5]
 refine wpT (i := 16) (v := .string (A0 ++ bx ++ A1 ++ by')) rfl (Or.inl ⟨by rfl, fun W hW => ?_⟩) hHeld ?_
 ·clear hW
  go_simp
  have hq := HSUM.out
  omega
 try simp only [Act.put, a0, a1, a2, a3, a4, a5]
 refine wpT (i := 17) (v := .slice (some ⟨Sn, 0, none⟩) 3 3) rfl (Or.inl ⟨by rfl, fun W hW => ?_⟩) hHeld ?_
 ·clear hW
  go_simp
 try simp only [Act.put, a0, a1, a2, a3, a4, a5]
 refine wpT (i := 18) (v := .pointer (some ⟨Sn, 2, none⟩)) rfl (Or.inl ⟨by rfl, fun W hW => ?_⟩) hHeld ?_
 ·clear hW
  go_simp
 try simp only [Act.put, a0, a1, a2, a3, a4, a5]
 refine wpT (i := 19) (v := .string A2) rfl (Or.inl ⟨by rfl, fun W hW => ?_⟩) hHeld ?_
 ·have c1 := (HST.out W hW).2.2.1
  clear hW
  go_simp
 try simp only [Act.put, a0, a1, a2, a3, a4, a5]
 refine wpT (i := 20) (v := .string (A0 ++ bx ++ A1 ++ by' ++ A2)) rfl (Or.inl ⟨by rfl, fun W hW => ?_⟩) hHeld ?_
 ·clear hW
  go_simp
  have hq := HSUM.out
  omega
 try simp only [Act.put, a0, a1, a2, a3, a4, a5]
 refine wpT (i := 21) (v := .string (A0 ++ bx ++ A1 ++ by' ++ A2 ++ (⟨#[61, 108, 101, 110]⟩ : ByteArray))) rfl (Or.inl ⟨by rfl, fun W hW => ?_⟩) hHeld ?_
 ·clear hW
  go_simp
  have hq := HSUM.out
  omega
 try simp only [Act.put, a0, a1, a2, a3, a4, a5]
 rw [HCAT.out]
 have TW := HT.out.grown (grown_trans HC9.out.1 hHeld)
 refine wpR (rs := [22]) (AllReadyH.cons rfl (fun K hK => ?_) AllReadyH.nil)
 go_simp
 refine (HP.out _ TW).mono ?_
 rintro e wp ⟨ao, cap, vp, rfl, CN, Kp, hab⟩
 go_wp2_with fail
 refine hK.out _ _ (grown_trans hHeld Kp) (fun hHeld => ?_)
 clear hK K
 try simp only [Act.put, a0, a1, a2, a3, a4, a5]
 clear TW Kp HST HCAT HP
 refine wpT (i := 23) (v := .tuple #[.slice ao 7 cap, vp, .int .i64 0, .int .i64 0]) rfl (Or.inl ⟨by rfl, fun W hW => ?_⟩) hHeld ?_
 ·clear hW
  go_simp
 try simp only [Act.put, a0, a1, a2, a3, a4, a5]
 refine wpT (i := 24) (v := .slice ao 7 cap) rfl (Or.inl ⟨by rfl, fun W hW => ?_⟩) hHeld ?_
 ·clear hW
  go_simp
 try simp only [Act.put, a0, a1, a2, a3, a4, a5]
 refine wpT (i := 25) (v := vp) rfl (Or.inl ⟨by rfl, fun W hW => ?_⟩) hHeld ?_
 ·clear hW
  go_simp
 try simp only [Act.put, a0, a1, a2, a3, a4, a5]
 refine wpT (i := 26) (v := .int .i64 0) rfl (Or.inl ⟨by rfl, fun W hW => ?_⟩) hHeld ?_
 ·clear hW
  go_simp
 try simp only [Act.put, a0, a1, a2, a3, a4, a5]
 refine wpT (i := 27) (v := .int .i64 0) rfl (Or.inl ⟨by rfl, fun W hW => ?_⟩) hHeld ?_
 ·clear hW
  go_simp
 try simp only [Act.put, a0, a1, a2, a3, a4, a5]
 refine wpT (i := 28) (v := .slice ao 7 cap) rfl (Or.inl ⟨by rfl, fun W hW => ?_⟩) hHeld ?_
 ·clear hW
  go_simp
 try simp only [Act.put, a0, a1, a2, a3, a4, a5]
 refine wpT (i := 29) (v := vp) rfl (Or.inl ⟨by rfl, fun W hW => ?_⟩) hHeld ?_
 ·clear hW
  go_simp
 try simp only [Act.put, a0, a1, a2, a3, a4, a5]
 refine wpT (i := 30) (v := .int .i64 0) rfl (Or.inl ⟨by rfl, fun W hW => ?_⟩) hHeld ?_
 ·clear hW
  go_simp
 try simp only [Act.put, a0, a1, a2, a3, a4, a5]
 refine wpT (i := 31) (v := .int .i64 0) rfl (Or.inl ⟨by rfl, fun W hW => ?_⟩) hHeld ?_
 ·clear hW
  go_simp
 try simp only [Act.put, a0, a1, a2, a3, a4, a5]
 refine wpAnyH_done (by kernel_rfl) ?_ _
 have HCA : Hid (w.grownBy wp none ∧ w2.grownBy wp none ∧ VAt wp P 28 X ∧ VAt wp Q 28 Y ∧ CV wp (some ⟨Nn, 0, none⟩) (flatG [nmN a, nmN b, nmN c]) ∧ CV wp ao (flatG FL)) := ⟨grown_trans HC9.out.1 hHeld, grown_trans HC9.out.2.1 hHeld, HC9.out.2.2.1.kept hHeld, HC9.out.2.2.2.1.kept hHeld, HC9.out.2.2.2.2.1.keptNone hHeld, CN⟩
 have HAB : Hid (∀ ad, ao = some ad → ad.block < wp.heap.size) := hab
 clear hHeld CN HC9 hab
 go_upto_region 9 with fail
 refine wp_region_held_drew (S := fun W' => wp.grownBy W' none) (by kernel_rfl) (grown_drewN wp 1 none) (fun hHeld => ?_)
 generalize wp.drew = wd at *
 refine wpT (i := 0) (v := .slice (some ⟨Nn, 0, none⟩) 3 3) rfl (Or.inl ⟨by rfl, fun W hW => ?_⟩) hHeld ?_
 ·clear hW
  go_simp
 try simp only [Act.put, a0, a1, a3, a4, a5]
 refine wpT (i := 1) (v := .pointer (some ⟨Nn, 0, none⟩)) rfl (Or.inl ⟨by rfl, fun W hW => ?_⟩) hHeld ?_
 ·clear hW
  go_simp
 try simp only [Act.put, a0, a1, a2, a3, a4, a5]
 refine wpT (i := 2) (v := .agg NA.toArray) rfl (yieldsIf_load_mid (by rfl) _ _ rfl _ _ rfl NA _ (fun W hW => (HR3.out W Nn (HCA.out.2.2.2.2.1.keptNone hW)).1) Tryz.underlying28 rfl HSN.out.1) hHeld ?_
 try simp only [Act.put, a0, a1, a2, a3, a4, a5]
 refine wpT (i := 3) (v := .slice (some ⟨Nn, 0, none⟩) 3 3) rfl (Or.inl ⟨by rfl, fun W hW => ?_⟩) hHeld ?_
 ·clear hW
  go_simp
 try simp only [Act.put, a0, a1, a2, a3, a4, a5]
 refine wpT (i := 4) (v := .pointer (some ⟨Nn, 24, none⟩)) rfl (Or.inl ⟨by rfl, fun W hW => ?_⟩) hHeld ?_
 ·clear hW
  go_simp
 try simp only [Act.put, a0, a1, a2, a3, a4, a5]
 refine wpT (i := 5) (v := .agg NB'.toArray) rfl (yieldsIf_load_mid (by rfl) _ _ rfl _ _ rfl NB' _ (fun W hW => (HR3.out W Nn (HCA.out.2.2.2.2.1.keptNone hW)).2.1) Tryz.underlying28 rfl HSN.out.2.1) hHeld ?_
 try simp only [Act.put, a0, a1, a2, a3, a4, a5]
 refine wpT (i := 6) (v := .agg (X)) rfl (yieldsIf_load_row (by rfl) _ _ rfl P rfl 28 (X) _ (fun W hW => HCA.out.2.2.1.kept hW) Tryz.underlying28 rfl HSX.out.1) hHeld ?_
 try simp only [Act.put, a0, a1, a2, a3, a4, a5]
 refine wpT (i := 7) (v := .slice (some ⟨Nn, 0, none⟩) 3 3) rfl (Or.inl ⟨by rfl, fun W hW => ?_⟩) hHeld ?_
 ·clear hW
  go_simp
 try simp only [Act.put, a0, a1, a2, a3, a4, a5]
 refine wpT (i := 8) (v := .pointer (some ⟨Nn, 48, none⟩)) rfl (Or.inl ⟨by rfl, fun W hW => ?_⟩) hHeld ?_
 ·clear hW
  go_simp
 try simp only [Act.put, a0, a1, a2, a3, a4, a5]
 refine wpT (i := 9) (v := .agg NC.toArray) rfl (yieldsIf_load_mid (by rfl) _ _ rfl _ _ rfl NC _ (fun W hW => (HR3.out W Nn (HCA.out.2.2.2.2.1.keptNone hW)).2.2) Tryz.underlying28 rfl HSN.out.2.2) hHeld ?_
 try simp only [Act.put, a0, a1, a2, a3, a4, a5]
 refine wpT (i := 10) (v := .agg (Y)) rfl (yieldsIf_load_row (by rfl) _ _ rfl Q rfl 28 (Y) _ (fun W hW => HCA.out.2.2.2.1.kept hW) Tryz.underlying28 rfl HSY.out.1) hHeld ?_
 try simp only [Act.put, a0, a1, a2, a3, a4, a5]
 refine wpR (rs := [11]) (AllReadyH.cons rfl (fun K hK => ?_) AllReadyH.nil)
 have hbs : w.heap.size ≤ wd.heap.size := Nat.le_trans HCA.out.1.size hHeld.size
 have hbp : wp.heap.size ≤ wd.heap.size := Nat.le_trans (Nat.le_refl _) hHeld.size
 refine step_litO (by rfl) 31 5 _ (by rfl) _ (by kernel_rfl) (flatG [nmN a, nmN b, akN (op11 x), nmN c, akN (op11 y)]) 28 HL5.out 24 rfl (by unfold maxLen; omega) ?_
 intro Z wl hZ OZ KZ hZl
 refine hK.out _ _ (grown_trans hHeld KZ) (fun hHeld => ?_)
 clear hK K KZ
 try simp only [Act.put, a0, a1, a2, a3, a4, a5]
 refine wpT (i := 12) (v := .slice (some ⟨Z, 0, none⟩) 5 5) rfl (Or.inl ⟨by rfl, fun W hW => ?_⟩) hHeld ?_
 ·clear hW
  go_simp
 try simp only [Act.put, a0, a1, a2, a3, a4, a5]
 refine wpAnyH_done (by kernel_rfl) ?_ _
 have HCB : Hid (w.grownBy wl none ∧ w2.grownBy wl none ∧ VAt wl P 28 X ∧ VAt wl Q 28 Y ∧ CV wl (some ⟨Nn, 0, none⟩) (flatG [nmN a, nmN b, nmN c]) ∧ CV wl ao (flatG FL)) := ⟨grown_trans HCA.out.1 hHeld, grown_trans HCA.out.2.1 hHeld, HCA.out.2.2.1.kept hHeld, HCA.out.2.2.2.1.kept hHeld, HCA.out.2.2.2.2.1.keptNone hHeld, HCA.out.2.2.2.2.2.keptNone hHeld⟩
 have HOZ : Hid (w.heap.size ≤ Z ∧ Z < wl.heap.size ∧ wl.ownsRow Z 28 24 (.slice (some ⟨Z, 0, none⟩) 5 5) 5 (flatG [nmN a, nmN b, akN (op11 x), nmN c, akN (op11 y)])) := ⟨Nat.le_trans hbs hZ, hZl, OZ⟩
 have HPL : Hid (wp.heap.size ≤ wl.heap.size ∧ wp.heap.size ≤ Z) := ⟨hHeld.size, Nat.le_trans hbp hZ⟩
 clear hHeld HCA OZ hbs hbp hZ hZl
 obtain ⟨i0, hi0, hz0, hz1, hz2⟩ := info_parts info28
 have HRW : Hid (∀ W' : World, wl.grownBy W' none → W'.cell? ⟨R, x, none⟩ = some (.int .i64 rx) ∧ W'.cell? ⟨R, y, none⟩ = some (.int .i64 ry)) := fun W' G => ⟨cv_cell0 (HC2.out.2.1.keptNone (grown_trans HCB.out.2.1 G)) HG.out.2.1, cv_cell0 (HC2.out.2.1.keptNone (grown_trans HCB.out.2.1 G)) HG.out.2.2.2⟩
 go_upto_region 10 with fail
 by_cases hlt : rx < ry
 ·skip
  refine wp_region_held_drew (S := fun W' => wl.grownBy W' none) (by kernel_rfl) (grown_drewN wl 1 none) (fun hHeld => ?_)
  generalize wl.drew = wd at *
  refine wpT (i := 0) (v := .slice (some ⟨R, 0, none⟩) 10 10) rfl (Or.inl ⟨by rfl, fun W hW => ?_⟩) hHeld ?_
  ·clear hW
   go_simp
  try simp only [Act.put, a0, a1, a3, a4, a5]
  refine wpT (i := 1) (v := .int .i64 (y : Int)) rfl (Or.inl ⟨by rfl, fun W hW => ?_⟩) hHeld ?_
  ·clear hW
   go_simp
  try simp only [Act.put, a0, a1, a2, a3, a4, a5]
  refine wpT (i := 2) (v := .pointer (some ⟨R, y, none⟩)) rfl (Or.inl ⟨by rfl, fun W hW => ?_⟩) hHeld ?_
  ·clear hW
   go_simp
  try simp only [Act.put, a0, a1, a2, a3, a4, a5]
  refine wpT (i := 3) (v := .int .i64 ry) rfl (Or.inl ⟨by rfl, fun W hW => ?_⟩) hHeld ?_
  ·have c1 := (HRW.out W hW).2
   clear hW
   go_simp
  try simp only [Act.put, a0, a1, a2, a3, a4, a5]
  refine wpT (i := 4) (v := .slice (some ⟨R, 0, none⟩) 10 10) rfl (Or.inl ⟨by rfl, fun W hW => ?_⟩) hHeld ?_
  ·clear hW
   go_simp
  try simp only [Act.put, a0, a1, a2, a3, a4, a5]
  refine wpT (i := 5) (v := .int .i64 (x : Int)) rfl (Or.inl ⟨by rfl, fun W hW => ?_⟩) hHeld ?_
  ·clear hW
   go_simp
  try simp only [Act.put, a0, a1, a2, a3, a4, a5]
  refine wpT (i := 6) (v := .pointer (some ⟨R, x, none⟩)) rfl (Or.inl ⟨by rfl, fun W hW => ?_⟩) hHeld ?_
  ·clear hW
   go_simp
  try simp only [Act.put, a0, a1, a2, a3, a4, a5]
  refine wpT (i := 7) (v := .int .i64 rx) rfl (Or.inl ⟨by rfl, fun W hW => ?_⟩) hHeld ?_
  ·have c1 := (HRW.out W hW).1
   clear hW
   go_simp
  try simp only [Act.put, a0, a1, a2, a3, a4, a5]
  refine wpT (i := 8) (v := .bool true) rfl (Or.inl ⟨by rfl, fun W hW => ?_⟩) hHeld ?_
  ·clear hW
   go_simp
  try simp only [Act.put, a0, a1, a2, a3, a4, a5]
  clear HRW
  refine wpAnyH_done (by kernel_rfl) ?_ _
  have HCC : Hid (w.grownBy wd none ∧ w2.grownBy wd none ∧ VAt wd P 28 X ∧ VAt wd Q 28 Y ∧ CV wd (some ⟨Nn, 0, none⟩) (flatG [nmN a, nmN b, nmN c]) ∧ CV wd ao (flatG FL)) := ⟨grown_trans HCB.out.1 hHeld, grown_trans HCB.out.2.1 hHeld, HCB.out.2.2.1.kept hHeld, HCB.out.2.2.2.1.kept hHeld, HCB.out.2.2.2.2.1.keptNone hHeld, HCB.out.2.2.2.2.2.keptNone hHeld⟩
  have HPD : Hid (wp.heap.size ≤ wd.heap.size) := Nat.le_trans HPL.out.1 hHeld.size
  clear HCB HOZ hHeld HPL
  go_upto_region 11 with fail
  refine wp_region_held_drew (S := fun W' => wd.grownBy W' none) (by kernel_rfl) (grown_drewN wd 1 none) (fun hHeld => ?_)
  generalize wd.drew = we at *
  refine wpT (i := 0) (v := .slice (some ⟨Nn, 0, none⟩) 3 3) rfl (Or.inl ⟨by rfl, fun W hW => ?_⟩) hHeld ?_
  ·clear hW
   go_simp
  try simp only [Act.put, a0, a1, a3, a4, a5]
  refine wpT (i := 1) (v := .pointer (some ⟨Nn, 0, none⟩)) rfl (Or.inl ⟨by rfl, fun W hW => ?_⟩) hHeld ?_
  ·clear hW
   go_simp
  try simp only [Act.put, a0, a1, a2, a3, a4, a5]
  refine wpT (i := 2) (v := .agg NA.toArray) rfl (yieldsIf_load_mid (by rfl) _ _ rfl _ _ rfl NA _ (fun W hW => (HR3.out W Nn (HCC.out.2.2.2.2.1.keptNone hW)).1) Tryz.underlying28 rfl HSN.out.1) hHeld ?_
  try simp only [Act.put, a0, a1, a2, a3, a4, a5]
  refine wpT (i := 3) (v := .slice (some ⟨Nn, 0, none⟩) 3 3) rfl (Or.inl ⟨by rfl, fun W hW => ?_⟩) hHeld ?_
  ·clear hW
   go_simp
  try simp only [Act.put, a0, a1, a2, a3, a4, a5]
  refine wpT (i := 4) (v := .pointer (some ⟨Nn, 24, none⟩)) rfl (Or.inl ⟨by rfl, fun W hW => ?_⟩) hHeld ?_
  ·clear hW
   go_simp
  try simp only [Act.put, a0, a1, a2, a3, a4, a5]
  refine wpT (i := 5) (v := .agg NB'.toArray) rfl (yieldsIf_load_mid (by rfl) _ _ rfl _ _ rfl NB' _ (fun W hW => (HR3.out W Nn (HCC.out.2.2.2.2.1.keptNone hW)).2.1) Tryz.underlying28 rfl HSN.out.2.1) hHeld ?_
  try simp only [Act.put, a0, a1, a2, a3, a4, a5]
  refine wpT (i := 6) (v := .slice (some ⟨Nn, 0, none⟩) 3 3) rfl (Or.inl ⟨by rfl, fun W hW => ?_⟩) hHeld ?_
  ·clear hW
   go_simp
  try simp only [Act.put, a0, a1, a2, a3, a4, a5]
  refine wpT (i := 7) (v := .pointer (some ⟨Nn, 48, none⟩)) rfl (Or.inl ⟨by rfl, fun W hW => ?_⟩) hHeld ?_
  ·clear hW
   go_simp
  try simp only [Act.put, a0, a1, a2, a3, a4, a5]
  refine wpT (i := 8) (v := .agg NC.toArray) rfl (yieldsIf_load_mid (by rfl) _ _ rfl _ _ rfl NC _ (fun W hW => (HR3.out W Nn (HCC.out.2.2.2.2.1.keptNone hW)).2.2) Tryz.underlying28 rfl HSN.out.2.2) hHeld ?_
  try simp only [Act.put, a0, a1, a2, a3, a4, a5]
  refine wpT (i := 9) (v := .agg (Y)) rfl (yieldsIf_load_row (by rfl) _ _ rfl Q rfl 28 (Y) _ (fun W hW => HCC.out.2.2.2.1.kept hW) Tryz.underlying28 rfl HSY.out.1) hHeld ?_
  try simp only [Act.put, a0, a1, a2, a3, a4, a5]
  refine wpT (i := 10) (v := .agg (X)) rfl (yieldsIf_load_row (by rfl) _ _ rfl P rfl 28 (X) _ (fun W hW => HCC.out.2.2.1.kept hW) Tryz.underlying28 rfl HSX.out.1) hHeld ?_
  try simp only [Act.put, a0, a1, a2, a3, a4, a5]
  refine wpR (rs := [11]) (AllReadyH.cons rfl (fun K hK => ?_) AllReadyH.nil)
  have hbs : w.heap.size ≤ we.heap.size := Nat.le_trans HCC.out.1.size hHeld.size
  have hbp : wp.heap.size ≤ we.heap.size := Nat.le_trans (HPD.out) hHeld.size
  refine step_litO (by rfl) 31 5 _ (by rfl) _ (by kernel_rfl) (flatG [nmN a, nmN b, nmN c, akN (op11 y), akN (op11 x)]) 28 HM5.out 24 rfl (by unfold maxLen; omega) ?_
  intro Z wm hZ OZ KZ hZl
  refine hK.out _ _ (grown_trans hHeld KZ) (fun hHeld => ?_)
  clear hK K KZ
  try simp only [Act.put, a0, a1, a2, a3, a4, a5]
  refine wpT (i := 12) (v := .slice (some ⟨Z, 0, none⟩) 5 5) rfl (Or.inl ⟨by rfl, fun W hW => ?_⟩) hHeld ?_
  ·clear hW
   go_simp
  try simp only [Act.put, a0, a1, a2, a3, a4, a5]
  refine wpAnyH_done (by kernel_rfl) ?_ _
  have HCE : Hid (w.grownBy wm none ∧ CV wm ao (flatG FL)) := ⟨grown_trans HCC.out.1 hHeld, HCC.out.2.2.2.2.2.keptNone hHeld⟩
  have HO2 : Hid (w.heap.size ≤ Z ∧ Z < wm.heap.size ∧ wm.ownsRow Z 28 24 (.slice (some ⟨Z, 0, none⟩) 5 5) 5 (flatG [nmN a, nmN b, nmN c, akN (op11 y), akN (op11 x)])) := ⟨Nat.le_trans hbs hZ, hZl, OZ⟩
  have HPZ : Hid (wp.heap.size ≤ Z) := Nat.le_trans hbp hZ
  clear hHeld HCC OZ hbs hbp hZ hZl HPD
  have HFE : Hid (flatG FL = flatG [nmN a, nmN b, nmN c, akN (op11 y), akN (op11 x)] ++ flatG [lnN, eqN]) := by show flatG FL = _; have h := HFL.out; rw [if_pos hlt] at h; rw [h]; exact flatG_append _ _
  have HFV : Hid ((flatG [nmN a, nmN b, nmN c, akN (op11 y), akN (op11 x)]).length = 5 * 24) := rfl
  have HFU : Hid ((flatG [lnN, eqN]).length = 2 * 24 ∧ ∀ u ∈ flatG [lnN, eqN], u.oneCell' = true) := ⟨rfl, fun u hu => flatG_one [lnN, eqN] u hu⟩
  have HSAME : Hid (∀ (W : World) (a6 : Option Addr) (c6 : Nat), CV W ao (flatG FL) → CV W a6 (flatG FL) → Calls Tryz.prog 8 #[.slice ao 7 cap, .slice a6 7 c6] W fun e w' => e = .returned (.bool true) ∧ ∃ n, w' = W.drewN n) := fun W a6 c6 h1 h2 => by
   have := gsame_any ao a6 cap c6 FL W h1 h2 (by rw [HFN.out]; omega)
   rw [HFN.out] at this
   exact this
  generalize flatG [nmN a, nmN b, nmN c, akN (op11 y), akN (op11 x)] = FV at *
  generalize flatG [lnN, eqN] = FU at *
  clear HR3 HSX HSY HSN HL5 HM5 HFL HC2 HG hlt HFN HSUM
  go_upto_region 13 with (first | refine wpList_bld rfl 28 #[(0, .const (.int .i64 2))] rfl _ (by kernel_rfl) (.agg LN) HB4.out ?_ | refine wpList_bld rfl 28 #[(0, .const (.int .i64 6)), (1, .const (.int .i64 1))] rfl _ (by kernel_rfl) (.agg EQ) HB5.out ?_ | (refine wpList_lit (by rfl) 31 2 _ rfl _ (by kernel_rfl) FU 28 HL2.out ?_; intro L2 wx CL KL) | (refine wpList_append_cv rfl (.tmp 133) (.tmp 136) 31 rfl 28 i0 _ 24 72 Tryz.underlying31 hi0 hz0 hz1 hz2 rfl (by decide) Z (.slice (some ⟨Z, 0, none⟩) 5 5) 5 FV rfl (owns_keptNone HO2.out.2.2 KL) (some ⟨L2, 0, none⟩) 2 2 FU rfl HFU.out.1 (fun e => by cases e) CL HFU.out.2 (by unfold maxLen; omega) (by omega) (Nat.le_trans (Nat.le_of_lt HO2.out.2.1) KL.size) ?_; intro v7 wy O7 K7))
  have GY : Hid (w.grownBy wy none) := grown_trans_new (grown_trans HCE.out.1 KL) K7 (fun q hq => by cases hq; exact HO2.out.1)
  have CN2 := HCE.out.2.keptNone KL
  have CN3 : CV wy ao (flatG FL) := CN2.keptUp wp.heap.size HAB.out K7 (fun k hk => by cases hk; exact HPZ.out)
  obtain ⟨a6, c6, rfl, C6, -⟩ := cv_of_row O7
  rw [← HFE.out] at C6
  clear O7 K7 CN2 CL KL HO2 HFE HFV HFU HPZ HAB hi0 hz0 hz1 hz2
  go_wp2_with fail
  refine (HSAME.out _ _ _ CN3 C6).mono ?_
  rintro e wz ⟨rfl, nz, rfl⟩
  have GZ := grown_trans GY (grown_drewN wy nz none)
  go_wp2_with fail
  refine (awake11_any _ (HT.out.grown GZ)).mono ?_
  rintro e w9 ⟨rfl, KA⟩
  go_wp2
  go_ret
  exact ⟨rfl, grown_trans GZ KA⟩
 ·skip
  refine wp_region_held_drew (S := fun W' => wl.grownBy W' none) (by kernel_rfl) (grown_drewN wl 1 none) (fun hHeld => ?_)
  generalize wl.drew = wd at *
  refine wpT (i := 0) (v := .slice (some ⟨R, 0, none⟩) 10 10) rfl (Or.inl ⟨by rfl, fun W hW => ?_⟩) hHeld ?_
  ·clear hW
   go_simp
  try simp only [Act.put, a0, a1, a3, a4, a5]
  refine wpT (i := 1) (v := .int .i64 (y : Int)) rfl (Or.inl ⟨by rfl, fun W hW => ?_⟩) hHeld ?_
  ·clear hW
   go_simp
  try simp only [Act.put, a0, a1, a2, a3, a4, a5]
  refine wpT (i := 2) (v := .pointer (some ⟨R, y, none⟩)) rfl (Or.inl ⟨by rfl, fun W hW => ?_⟩) hHeld ?_
  ·clear hW
   go_simp
  try simp only [Act.put, a0, a1, a2, a3, a4, a5]
  refine wpT (i := 3) (v := .int .i64 ry) rfl (Or.inl ⟨by rfl, fun W hW => ?_⟩) hHeld ?_
  ·have c1 := (HRW.out W hW).2
   clear hW
   go_simp
  try simp only [Act.put, a0, a1, a2, a3, a4, a5]
  refine wpT (i := 4) (v := .slice (some ⟨R, 0, none⟩) 10 10) rfl (Or.inl ⟨by rfl, fun W hW => ?_⟩) hHeld ?_
  ·clear hW
   go_simp
  try simp only [Act.put, a0, a1, a2, a3, a4, a5]
  refine wpT (i := 5) (v := .int .i64 (x : Int)) rfl (Or.inl ⟨by rfl, fun W hW => ?_⟩) hHeld ?_
  ·clear hW
   go_simp
  try simp only [Act.put, a0, a1, a2, a3, a4, a5]
  refine wpT (i := 6) (v := .pointer (some ⟨R, x, none⟩)) rfl (Or.inl ⟨by rfl, fun W hW => ?_⟩) hHeld ?_
  ·clear hW
   go_simp
  try simp only [Act.put, a0, a1, a2, a3, a4, a5]
  refine wpT (i := 7) (v := .int .i64 rx) rfl (Or.inl ⟨by rfl, fun W hW => ?_⟩) hHeld ?_
  ·have c1 := (HRW.out W hW).1
   clear hW
   go_simp
  try simp only [Act.put, a0, a1, a2, a3, a4, a5]
  refine wpT (i := 8) (v := .bool false) rfl (Or.inl ⟨by rfl, fun W hW => ?_⟩) hHeld ?_
  ·clear hW
   go_simp
  try simp only [Act.put, a0, a1, a2, a3, a4, a5]
  clear HRW
  refine wpAnyH_done (by kernel_rfl) ?_ _
  have HCE : Hid (w.grownBy wd none ∧ CV wd ao (flatG FL)) := ⟨grown_trans HCB.out.1 hHeld, HCB.out.2.2.2.2.2.keptNone hHeld⟩
  have HO2 : Hid (w.heap.size ≤ Z ∧ Z < wd.heap.size ∧ wd.ownsRow Z 28 24 (.slice (some ⟨Z, 0, none⟩) 5 5) 5 (flatG [nmN a, nmN b, akN (op11 x), nmN c, akN (op11 y)])) := ⟨HOZ.out.1, Nat.lt_of_lt_of_le HOZ.out.2.1 hHeld.size, owns_keptNone HOZ.out.2.2 hHeld⟩
  have HPZ : Hid (wp.heap.size ≤ Z) := HPL.out.2
  clear hHeld HCB HOZ HPL
  have HFE : Hid (flatG FL = flatG [nmN a, nmN b, akN (op11 x), nmN c, akN (op11 y)] ++ flatG [lnN, eqN]) := by show flatG FL = _; have h := HFL.out; rw [if_neg hlt] at h; rw [h]; exact flatG_append _ _
  have HFV : Hid ((flatG [nmN a, nmN b, akN (op11 x), nmN c, akN (op11 y)]).length = 5 * 24) := rfl
  have HFU : Hid ((flatG [lnN, eqN]).length = 2 * 24 ∧ ∀ u ∈ flatG [lnN, eqN], u.oneCell' = true) := ⟨rfl, fun u hu => flatG_one [lnN, eqN] u hu⟩
  have HSAME : Hid (∀ (W : World) (a6 : Option Addr) (c6 : Nat), CV W ao (flatG FL) → CV W a6 (flatG FL) → Calls Tryz.prog 8 #[.slice ao 7 cap, .slice a6 7 c6] W fun e w' => e = .returned (.bool true) ∧ ∃ n, w' = W.drewN n) := fun W a6 c6 h1 h2 => by
   have := gsame_any ao a6 cap c6 FL W h1 h2 (by rw [HFN.out]; omega)
   rw [HFN.out] at this
   exact this
  generalize flatG [nmN a, nmN b, akN (op11 x), nmN c, akN (op11 y)] = FV at *
  generalize flatG [lnN, eqN] = FU at *
  clear HR3 HSX HSY HSN HL5 HM5 HFL HC2 HG hlt HFN HSUM
  go_upto_region 13 with (first | refine wpList_bld rfl 28 #[(0, .const (.int .i64 2))] rfl _ (by kernel_rfl) (.agg LN) HB4.out ?_ | refine wpList_bld rfl 28 #[(0, .const (.int .i64 6)), (1, .const (.int .i64 1))] rfl _ (by kernel_rfl) (.agg EQ) HB5.out ?_ | (refine wpList_lit (by rfl) 31 2 _ rfl _ (by kernel_rfl) FU 28 HL2.out ?_; intro L2 wx CL KL) | (refine wpList_append_cv rfl (.tmp 133) (.tmp 136) 31 rfl 28 i0 _ 24 72 Tryz.underlying31 hi0 hz0 hz1 hz2 rfl (by decide) Z (.slice (some ⟨Z, 0, none⟩) 5 5) 5 FV rfl (owns_keptNone HO2.out.2.2 KL) (some ⟨L2, 0, none⟩) 2 2 FU rfl HFU.out.1 (fun e => by cases e) CL HFU.out.2 (by unfold maxLen; omega) (by omega) (Nat.le_trans (Nat.le_of_lt HO2.out.2.1) KL.size) ?_; intro v7 wy O7 K7))
  have GY : Hid (w.grownBy wy none) := grown_trans_new (grown_trans HCE.out.1 KL) K7 (fun q hq => by cases hq; exact HO2.out.1)
  have CN2 := HCE.out.2.keptNone KL
  have CN3 : CV wy ao (flatG FL) := CN2.keptUp wp.heap.size HAB.out K7 (fun k hk => by cases hk; exact HPZ.out)
  obtain ⟨a6, c6, rfl, C6, -⟩ := cv_of_row O7
  rw [← HFE.out] at C6
  clear O7 K7 CN2 CL KL HO2 HFE HFV HFU HPZ HAB hi0 hz0 hz1 hz2
  go_wp2_with fail
  refine (HSAME.out _ _ _ CN3 C6).mono ?_
  rintro e wz ⟨rfl, nz, rfl⟩
  have GZ := grown_trans GY (grown_drewN wy nz none)
  go_wp2_with fail
  refine (awake11_any _ (HT.out.grown GZ)).mono ?_
  rintro e w9 ⟨rfl, KA⟩
  go_wp2
  go_ret
  exact ⟨rfl, grown_trans GZ KA⟩
set_option maxRecDepth 100000 in
theorem lifted (os : Os) (started : os.Started) (H : Type) (enc : TypeId × Value → H) (F : Stop.Interp) :
  ReturnsInHanded {} Tryz.checked os 3 .any ((OpenSpec.ofChange Rows.parseBindsSpec).preRow enc Tryz.prog Tryz.f3 Rows.parseBindsRow.domain false Rows.parseBindsRow.laid) (((OpenSpec.ofChange Rows.parseBindsSpec).at F).post enc Tryz.prog Tryz.f3 false true false false) := by
 have hx : DataW.whole enc Tryz.prog ((laidWorld os).forCall (fun _ _ => 0) ⟨#[], #[.int .i64 0, .int .i64 0, .int .u32 0, .int .u32 0, .int .u32 0], []⟩).memory Tryz.f3.params.toList Rows.parseBindsSpec.vars false (#[.int .i64 0, .int .i64 0, .int .u32 0, .int .u32 0, .int .u32 0] : Array Value).toList 8 = some ([.lit (.int .i64 0), .lit (.int .i64 0), .lit (.int .u32 0), .lit (.int .u32 0), .lit (.int .u32 0)], [], []) := by kernel_rfl
 refine returnsInHanded_of_row (C := Tryz.checked) (s := (OpenSpec.ofChange Rows.parseBindsSpec)) own started (by kernel_rfl) Tryz.func3
  (witness_row_atRef (enc := enc) (C := Tryz.checked) false (laidWorld os) #[.int .i64 0, .int .i64 0, .int .u32 0, .int .u32 0, .int .u32 0] (World.laidAll_os _ _ _) (by kernel_rfl) (by kernel_rfl) (by kernel_rfl)
   (OpenSpec.preRow_of_cond 8 hx (by kernel_rfl) (fun k hk => by cases hk) (by kernel_rfl) (laid_met os _))) ?_
 intro W base args ds gs before hval0 hW hcnd hcond hsz0 hL hsh _
 have hsz : (DataW.weightsEach Tryz.prog (Tryz.f3.params.toList ++ Rows.parseBindsSpec.plain.varTypes Tryz.prog) (ds ++ gs)).all (· ≤ reachBytes) = true := hsz0
 have T : TabB W := laid_tabB hL hsh
 have hval : ∀ (j : Nat) t v, Tryz.f3.params[j]? = some t → args[j]? = some v → Value.okWide Tryz.prog W .any base t v := hval0
 have hW' := hW
 obtain ⟨p, q, hA0, hV, rfl, hfz, hnd⟩ := hW
 have hA : DataW.TrodAll enc Tryz.prog W 0 (fun _ => true) true Tryz.f3.params.toList args.toList ds p := hA0
 rw [Tryz.params3] at hA hval hsz
 obtain ⟨v0, vs0, d0, ds0, p0, q0, hargs, rfl, rfl, h0, r0⟩ := trodAll_cons hA
 obtain ⟨v1, vs1, d1, ds1, p1, q1, rfl, rfl, rfl, h1, r1⟩ := trodAll_cons r0
 obtain ⟨v2, vs2, d2, ds2, p2, q2, rfl, rfl, rfl, h2, r2⟩ := trodAll_cons r1
 obtain ⟨v3, vs3, d3, ds3, p3, q3, rfl, rfl, rfl, h3, r3⟩ := trodAll_cons r2
 obtain ⟨v4, vs4, d4, ds4, p4, q4, rfl, rfl, rfl, h4, r4⟩ := trodAll_cons r3
 obtain ⟨rfl, rfl, rfl⟩ := trodAll_nil r4
 obtain rfl : args = #[v0, v1, v2, v3, v4] := by cases args; simp_all
 obtain ⟨rfl, rfl⟩ := trodVars_none hV
 obtain ⟨x0, rfl, rfl, rfl, w0⟩ := open_int Tryz.underlying3 (hval 0 3 v0 rfl rfl) h0
 obtain ⟨x1, rfl, rfl, rfl, w1⟩ := open_int Tryz.underlying3 (hval 1 3 v1 rfl rfl) h1
 obtain ⟨y2, rfl, rfl, rfl, w2⟩ := open_int Tryz.underlying22 (hval 2 22 v2 rfl rfl) h2
 have bd2 := bounds_u32 w2
 obtain ⟨x2, rfl⟩ := Int.eq_ofNat_of_zero_le bd2.1
 have hv2 : x2 ≤ 4294967295 := by omega
 obtain ⟨y3, rfl, rfl, rfl, w3⟩ := open_int Tryz.underlying22 (hval 3 22 v3 rfl rfl) h3
 have bd3 := bounds_u32 w3
 obtain ⟨x3, rfl⟩ := Int.eq_ofNat_of_zero_le bd3.1
 have hv3 : x3 ≤ 4294967295 := by omega
 obtain ⟨y4, rfl, rfl, rfl, w4⟩ := open_int Tryz.underlying22 (hval 4 22 v4 rfl rfl) h4
 have bd4 := bounds_u32 w4
 obtain ⟨x4, rfl⟩ := Int.eq_ofNat_of_zero_le bd4.1
 have hv4 : x4 ≤ 4294967295 := by omega
 clear hA0 hval0
 refine (walk x0 x1 x2 x3 x4 W hv2 hv3 hv4 T).mono fun e W' ⟨he, hg⟩ => ?_
 subst he
 have bel : Below W.heap.size W W' := (Below.refl _ _).grown hg (Nat.le_refl _) (by simp)
 exact ⟨_, rfl, _, _, _, [], _, [], hW', trodAll_mk1 (shut_bool Tryz.underlying4 _), (trodAll_cons_mk (shut_int Tryz.underlying3 w0) (trodAll_cons_mk (shut_int Tryz.underlying3 w1) (trodAll_cons_mk (shut_int Tryz.underlying22 w2) (trodAll_cons_mk (shut_int Tryz.underlying22 w3) (trodAll_cons_mk (shut_int Tryz.underlying22 w4) trodAll_mk0))))), rfl, bel.frame _, fun h => by cases h⟩
theorem over : Rows.ParseBindsSaid :=
 OpenClaim.holds_of_cond 3 Tryz.f3 rfl rfl rfl rfl rfl rfl rfl ⟨rfl, rfl, rfl, rfl, rfl⟩ rfl rfl rfl rfl rfl (by kernel_rfl) Tryz.func3 (by kernel_rfl)
  (of_decide_eq_true (by kernel_rfl)) (by unfold Func.isWrapper; first | (rw [if_pos (by decide +kernel)]; kernel_rfl) | (rw [if_neg (by decide +kernel)]; exact ⟨rfl, rfl⟩))
  (fun os started H enc _ F => by rw [OpenClaim.pre_eq_preRow]; exact lifted os started H enc F)
theorem plain (f : FuncId) (fn : Func) (hf : Tryz.pinned.checked.prog.funcNamed "riddle/riddlelaw11.ParseBinds" = some f) (hfn : Tryz.pinned.checked.prog.funcs[f]? = some fn) :
  true = Tryz.pinned.checked.prog.looks [] ∧ ∀ (j : Nat) t, fn.params[j]? = some t → Tryz.pinned.checked.prog.wantsStandIn t = false := by
 obtain rfl : f = 3 := Option.some.inj ((show Tryz.prog.funcNamed "riddle/riddlelaw11.ParseBinds" = some 3 by kernel_rfl).symm.trans hf) |>.symm
 obtain rfl : fn = Tryz.f3 := (Option.some.inj (Tryz.func3.symm.trans hfn)).symm
 refine ⟨by kernel_rfl, fun j t ht => ?_⟩
 rw [Tryz.params3] at ht
 have ht2 := Array.mem_of_getElem? ht
 simp only [List.mem_toArray, List.mem_cons, List.not_mem_nil, or_false] at ht2
 rcases ht2 with rfl | rfl | rfl | rfl | rfl
 ·exact (show Tryz.prog.wantsStandIn 3 = false by kernel_rfl)
 ·exact (show Tryz.prog.wantsStandIn 3 = false by kernel_rfl)
 ·exact (show Tryz.prog.wantsStandIn 22 = false by kernel_rfl)
 ·exact (show Tryz.prog.wantsStandIn 22 = false by kernel_rfl)
 ·exact (show Tryz.prog.wantsStandIn 22 = false by kernel_rfl)
theorem card : Rows.ParseBindsCardSaid :=
 Claim7.holds_tied_plain_at .later [] _ _ _ _ over (fun _ h => by cases h) (by kernel_rfl) (fun _ h => by cases h) parseBinds_row_tie rfl ⟨rfl, rfl⟩ (by kernel_rfl) rfl plain (by kernel_rfl)

end parseBinds
theorem parseBinds_holds : Rows.ParseBindsCardSaid := parseBinds.card
#print axioms parseBinds_holds

end Go.Proofs.YtghbbephhoniaaaGreatDoor
