import Derived.Test.YtghbbephhoniaaaGreatDoorLotP6
import Derived.Laws.StructEq
import Derived.Deep.QuietTactic
import Derived.Test.YtghbbephhoniaaaGreatDoorLotP2
import Derived.Test.YtghbbephhoniaaaGreatDoorLotP5
import Derived.Deep.MidRow
namespace Go.Proofs.YtghbbephhoniaaaGreatDoor
open Go.RowKit
set_option maxRecDepth 100000
theorem eqF_cons {P : Program} {d : Nat} {xs ys : Array Value} {w : World} {f : Field} {fs : List Field} {a b : Value} {r : Bool} (hn : f.name ≠ "_") (h1 : (part f.type xs f.offset).run P w = .ok a w) (h2 : (part f.type ys f.offset).run P w = .ok b w) (h3 : (Op.equalIn d f.type a b).run P w = .ok r w) :
  (Op.eqFields d xs ys (f :: fs)).run P w = if r = true then (Op.eqFields d xs ys fs).run P w else .ok false w := by
 simp only [Op.eqFields]
 rw [if_pos hn]
 simp only [Sem.run_bind, h1, h2, h3, Result.andThen_ok]
 cases r <;> rfl
theorem node_fs : (Tryz.prog.fieldsOf 28).toList = [{ name := "Kind", type := 3, offset := 0, embedded := false, tag := "", pkgPath := "", byteOffset := 0 }, { name := "Op", type := 3, offset := 1, embedded := false, tag := "", pkgPath := "", byteOffset := 8 }, { name := "N", type := 22, offset := 2, embedded := false, tag := "", pkgPath := "", byteOffset := 16 }, { name := "M", type := 22, offset := 3, embedded := false, tag := "", pkgPath := "", byteOffset := 20 }, { name := "Size", type := 3, offset := 4, embedded := false, tag := "", pkgPath := "", byteOffset := 24 }, { name := "Of", type := 3, offset := 5, embedded := false, tag := "", pkgPath := "", byteOffset := 32 }, { name := "Side", type := 3, offset := 6, embedded := false, tag := "", pkgPath := "", byteOffset := 40 }, { name := "Addr", type := 26, offset := 7, embedded := false, tag := "", pkgPath := "", byteOffset := 48 }, { name := "Bits", type := 3, offset := 23, embedded := false, tag := "", pkgPath := "", byteOffset := 64 }] := by kernel_rfl
theorem eq_int64 (d : Nat) (a b : Int) (w : World) : (Op.equalIn (d + 1) 3 (.int .i64 a) (.int .i64 b)).run Tryz.prog w = .ok (decide (a = b)) w := by
 rw [run_equalIn_int w d _ _ .i64 _ _ Tryz.underlying3]
 by_cases h : a = b <;> simp [h]
theorem eq_nat32 (d : Nat) (a b : Nat) (w : World) : (Op.equalIn (d + 1) 22 (.int .u32 (a : Int)) (.int .u32 (b : Int))).run Tryz.prog w = .ok (decide (a = b)) w := by
 rw [run_equalIn_int w d _ _ .u32 _ _ Tryz.underlying22]
 by_cases h : a = b
 ·simp [h]
 ·have : ¬ (a : Int) = (b : Int) := by omega
  rw [decide_eq_false h, show ((a : Int) == (b : Int)) = false by simpa using this]
theorem eq_arr2 {P : Program} {t e : TypeId} {n : Nat} {i : TypeInfo} (d : Nat) (hu : P.underlying t = some (.array n e)) (hi : P.info? e = some i) (he : P.underlying e = some (.int .u8)) (hk : P.plainKey e = true) (hc : P.cellsOf e = 1) (xs ys : List UInt8) (hx : xs.length = n) (hy : ys.length = n) (w : World) :
  (Op.equalIn (d + 2) t (.agg (xs.map bv).toArray) (.agg (ys.map bv).toArray)).run P w = .ok (decide (xs = ys)) w := by
 rw [run_equalIn_array w (d + 1) _ _ hu hi, hc, List.range_eq_range', items_bytes d e he hk xs ys w (by omega) n 0 (by omega)]
 rfl
set_option maxHeartbeats 1000000 in
theorem ng_cmp (x y : Ng) (w : World) : (Op.equalIn 10000 28 (.agg x.cells.toArray) (.agg y.cells.toArray)).run Tryz.prog w = .ok (sameG x y) w := by
 obtain ⟨i0, hi, -⟩ := info_parts info5
 rw [show (10000 : Nat) = 9999 + 1 from rfl, run_equalIn_struct w 9999 _ _ _ (by kernel_rfl) (by kernel_rfl), node_fs]
 rw [eqF_cons (a := .int .i64 x.kind) (b := .int .i64 y.kind) (by decide) (by kernel_rfl) (by kernel_rfl) (eq_int64 9998 _ _ w)]
 rw [eqF_cons (a := .int .i64 x.op) (b := .int .i64 y.op) (by decide) (by kernel_rfl) (by kernel_rfl) (eq_int64 9998 _ _ w)]
 rw [eqF_cons (a := .int .u32 (x.n : Int)) (b := .int .u32 (y.n : Int)) (by decide) (by kernel_rfl) (by kernel_rfl) (eq_nat32 9998 _ _ w)]
 rw [eqF_cons (a := .int .u32 (x.m : Int)) (b := .int .u32 (y.m : Int)) (by decide) (by kernel_rfl) (by kernel_rfl) (eq_nat32 9998 _ _ w)]
 rw [eqF_cons (a := .int .i64 x.size) (b := .int .i64 y.size) (by decide) (by kernel_rfl) (by kernel_rfl) (eq_int64 9998 _ _ w)]
 rw [eqF_cons (a := .int .i64 x.of) (b := .int .i64 y.of) (by decide) (by kernel_rfl) (by kernel_rfl) (eq_int64 9998 _ _ w)]
 rw [eqF_cons (a := .int .i64 x.side) (b := .int .i64 y.side) (by decide) (by kernel_rfl) (by kernel_rfl) (eq_int64 9998 _ _ w)]
 rw [eqF_cons (a := .agg ((adgs x).map bv).toArray) (b := .agg ((adgs y).map bv).toArray) (by decide) (by kernel_rfl) (by kernel_rfl) (eq_arr2 9997 Tryz.underlying26 hi Tryz.underlying5 (by kernel_rfl) (by kernel_rfl) (adgs x) (adgs y) rfl rfl w)]
 rw [eqF_cons (a := .int .i64 x.bits) (b := .int .i64 y.bits) (by decide) (by kernel_rfl) (by kernel_rfl) (eq_int64 9998 _ _ w)]
 have hn : (Op.eqFields 9999 x.cells.toArray y.cells.toArray []).run Tryz.prog w = .ok true w := rfl
 rw [hn]
 unfold sameG
 generalize decide (x.kind = y.kind) = b0
 generalize decide (x.op = y.op) = b1
 generalize decide (x.n = y.n) = b2
 generalize decide (x.m = y.m) = b3
 generalize decide (x.size = y.size) = b4
 generalize decide (x.of = y.of) = b5
 generalize decide (x.side = y.side) = b6
 generalize decide (adgs x = adgs y) = b7
 generalize decide (x.bits = y.bits) = b8
 cases b0 <;> cases b1 <;> cases b2 <;> cases b3 <;> cases b4 <;> cases b5 <;> cases b6 <;> cases b7 <;> cases b8 <;> rfl
theorem kindE_none {k : Int} {ps : List Pt} (h : ∀ p ∈ ps, (p.truth == wantsG k) = true) : kindE k ps = 0 := by
 unfold kindE
 rw [if_pos (List.all_eq_true.2 h)]
theorem arithG_le {op : Int} {a b : Nat} (ha : a ≤ 4294967295) (hb : b ≤ 4294967295) : arithG op a b ≤ 4294967295 := by
 unfold arithG
 have h1 := shiftV_le a b true ha
 have h2 := shiftV_le a b false ha
 have h3 : a / b ≤ a := Nat.div_le_self _ _
 have h4 : a % b ≤ a := Nat.mod_le _ _
 have h5 : a &&& b ≤ a := Nat.and_le_left
 have h6 : a ||| b < 2 ^ 32 := Nat.or_lt_two_pow (by omega) (by omega)
 have h7 : a ^^^ b < 2 ^ 32 := Nat.xor_lt_two_pow (by omega) (by omega)
 repeat' split
 all_goals omega
theorem getD_le {ps : List Pt} (h : ∀ p ∈ ps, p.val ≤ 4294967295) (i : Nat) : (ps.getD i pt0).val ≤ 4294967295 := by
 rw [List.getD_eq_getElem?_getD]
 cases e : ps[i]? with
 | none => simp [pt0]
 | some p => exact h p (List.mem_of_getElem? e)
theorem joinG_le {x : Ng} {ps : List Pt} (hx : x.n ≤ 4294967295) (h : ∀ p ∈ ps, p.val ≤ 4294967295) : (joinG x ps).val ≤ 4294967295 := by
 have h0 := getD_le h 0
 have h1 := getD_le h 1
 unfold joinG
 split
 ·cases e : valG x ps with
  | none => simp
  | some v =>
   simp only
   unfold valG at e
   split at e
   ·cases e; exact hx
   ·split at e
    ·cases e; exact arithG_le h0 h1
    ·split at e
     ·cases e; unfold minusG; omega
     ·cases e
 ·simp
theorem flat3_drop {c : Pt → List Value} (hc : ∀ p, (c p).length = 3) : ∀ (xs : List Pt) (n : Nat), (flat3 c xs).drop (n * 3) = flat3 c (xs.drop n)
 | [], n => by simp [flat3]
 | x :: xs, 0 => by simp
 | x :: xs, n + 1 => by
  rw [flat3_cons, List.drop_succ_cons, show (n + 1) * 3 = 3 + n * 3 by omega, ← List.drop_drop, List.drop_left' (hc x), flat3_drop hc xs n]
theorem flat3_take {c : Pt → List Value} (hc : ∀ p, (c p).length = 3) : ∀ (xs : List Pt) (n : Nat), (flat3 c xs).take (n * 3) = flat3 c (xs.take n)
 | [], n => by simp [flat3]
 | x :: xs, 0 => by simp [flat3]
 | x :: xs, n + 1 => by
  rw [flat3_cons, List.take_succ_cons, flat3_cons, show (n + 1) * 3 = (c x).length + n * 3 by rw [hc]; omega, List.take_append, List.take_of_length_le (by omega), Nat.add_sub_cancel_left, flat3_take hc xs n]
theorem cv_drop {c : Pt → List Value} (hc : ∀ p, (c p).length = 3) {w : World} {g : Nat} {st : List Pt} (h : CV w (some ⟨g, 0, none⟩) (flat3 c st)) (f : Nat) (ao : Option Addr) (ha : ao = some ⟨g, f * 3, none⟩ ∨ (st.length ≤ f ∧ ao ≠ none)) : CV w ao (flat3 c (st.drop f)) := by
 rcases ha with rfl | ⟨h1, h2⟩
 ·refine ⟨fun e => (by cases e), fun ad had i hi => ?_⟩
  cases had
  have hl := flat3_len hc st
  have hl2 := flat3_len hc (st.drop f)
  rw [List.length_drop] at hl2
  have := h.2 _ rfl (f * 3 + i) (by omega)
  rw [Addr.add_lit, Nat.zero_add] at this
  rw [Addr.add_lit, this]
  congr 1
  have e := flat3_drop hc st f
  simp only [← e, List.getElem_drop]
 ·rw [List.drop_eq_nil_of_le h1]
  exact ⟨fun e => absurd e h2, fun ad had i hi => by simp [flat3] at hi⟩
def walkR (x : Except (Nat × Int) (List Pt)) (v : Value) (e : Ending) : Prop := match x with
 | .error (k, er) => e = .returned (.tuple #[.slice none 0 0, .int .i64 (k : Int), .int .i64 er])
 | .ok _ => e = .returned (.tuple #[v, .int .i64 0, .int .i64 0])
def walkL (x : Except (Nat × Int) (List Pt)) : List Pt := match x with
 | .error _ => []
 | .ok st => st
theorem stepG_none {x : Ng} {st : List Pt} (h : arG x.kind = none) : stepG x st = .error 120 := by rw [stepG, h]
theorem stepG_few {x : Ng} {st : List Pt} {a : Nat} (h : arG x.kind = some a) (hl : st.length < a) : stepG x st = .error 120 := by
 rw [stepG, h]
 simp only
 rw [if_pos hl]
theorem stepG_bad {x : Ng} {st : List Pt} {a : Nat} (h : arG x.kind = some a) (hl : ¬ st.length < a) (hf : faultG x (st.drop (st.length - a)) ≠ 0) : stepG x st = .error (faultG x (st.drop (st.length - a))) := by
 rw [stepG, h]
 simp only
 rw [if_neg hl, if_pos hf]
theorem stepG_good {x : Ng} {st : List Pt} {a : Nat} (h : arG x.kind = some a) (hl : ¬ st.length < a) (hf : faultG x (st.drop (st.length - a)) = 0) : stepG x st = .ok (st.take (st.length - a) ++ [joinG x (st.drop (st.length - a))]) := by
 rw [stepG, h]
 simp only
 rw [if_neg hl, if_neg (fun e => e hf)]
theorem walkG_next {t : List Ng} {st st' : List Pt} {k : Nat} (hk : k < t.length) (h : stepG t[k] st = .ok st') : walkG st k (t.drop k) = walkG st' (k + 1) (t.drop (k + 1)) := by
 rw [List.drop_eq_getElem_cons hk, walkG, h]
theorem walkG_stop {t : List Ng} {st : List Pt} {k : Nat} {e : Int} (hk : k < t.length) (h : stepG t[k] st = .error e) : walkG st k (t.drop k) = .error (k, e) := by
 rw [List.drop_eq_getElem_cons hk, walkG, h]
def Pt.ok (p : Pt) : Prop := (p.fixed = false → p.val = 0) ∧ (p.truth = true → p.fixed = false)
def checkR (t : List Ng) : Value := .tuple #[.int .i64 ((checkG t).1 : Int), .int .i64 (checkG t).2]
def iv (z : Int) : Value := .int .i64 z
abbrev ZOwns (w : World) (base : Nat) (v : Value) (bs : List Int) : Prop := w.ownsRow base 3 1 v bs.length (bs.map iv)
theorem CV.ints {w : World} {ao : Option Addr} {bs : List Int} (h : CV w ao (bs.map iv)) {k : Nat} (hk : k < bs.length) :
  ∃ b off, ao = some ⟨b, off, none⟩ ∧ ∀ i (hi : i < bs.length), w.cell? ⟨b, off + i, none⟩ = some (.int .i64 bs[i]) := by
 obtain ⟨b, off, hao, hc⟩ := h.addr (k := k) (by simpa using hk)
 exact ⟨b, off, hao, fun i hi => by rw [hc i (by simpa using hi)]; simp [iv]⟩
set_option maxHeartbeats 400000 in
theorem zsame_any (a b : Option Addr) (ca cb : Nat) (xs : List Int) (w : World) (ha : CV w a (xs.map iv)) (hb : CV w b (xs.map iv)) (hm : xs.length ≤ 9223372036854775807) :
  Calls Tryz.prog 16 #[.slice a xs.length ca, .slice b xs.length cb] w fun e w' => e = .returned (.bool true) ∧ ∃ n, w' = w.drewN n := by
 have hne : ((xs.length : Int) != (xs.length : Int)) = false := by simp
 go_enter Tryz.func16, Tryz.ntmps16
 go_wp2
 go_loopw [5] (fun i wr => ∃ k : Nat, k ≤ xs.length ∧ i = .int .i64 k ∧ ∃ n, wr = w.drewN n) (fun i _ => xs.length - (intOf i).toNat)
 case atStart => exact ⟨0, Nat.zero_le _, rfl, 0, rfl⟩
 case round =>
  obtain ⟨k, hk, rfl, n, rfl⟩ := hrel
  by_cases hlt : k < xs.length
  ·obtain ⟨b1, o1, rfl, h1⟩ := ha.ints hlt
   obtain ⟨b2, o2, rfl, h2⟩ := hb.ints hlt
   have c1 := h1 k hlt
   have c2 := h2 k hlt
   clear ha hb h1 h2
   generalize xs[k] = z at *
   have hl : (k : Int) < (xs.length : Int) := by omega
   go_wp2
   go_quiet (fail)
   go_wp2
   go_roundw
   case rel => exact ⟨k + 1, by omega, by go_num, _, by rfl⟩
   case measure => simp [intOf]; omega
  ·go_wp2
   go_ret
   exact ⟨rfl, n, rfl⟩
def ZSpoilRel (w : World) (row : Option Nat) (g g' n n' : Nat) (wr : World) : Prop := BlkN wr 3 g n ∧ BlkN wr 3 g' n' ∧ w.grownBy wr row
theorem ZSpoilRel.set {w wr : World} {row : Option Nat} {g g' n n' : Nat} (h : ZSpoilRel w row g g' n n' wr) {p : Addr} (hp : row = some p.block ∨ w.heap.size ≤ p.block) (u : Value) : ZSpoilRel w row g g' n n' (wr.setCell p u) :=
 ⟨h.1.setCell _ _, h.2.1.setCell _ _, grown_setCell h.2.2 _ _ hp⟩
def sv (n : Nat) : Value := .int .i64 (n : Int)
abbrev TsOwns (w : World) (base : Nat) (v : Value) (ss : List Nat) : Prop := w.ownsRow base 3 1 v ss.length (ss.map sv)
theorem setCells_blk {w : World} {e : TypeId} {g n : Nat} (b : Nat) : ∀ (vs : List Value) (o : Nat) (w : World), BlkN w e g n → BlkN (w.setCells b o vs) e g n
 | [], _, _, h => h
 | v :: r, o, _, h => setCells_blk (w := w) b r (o + 1) _ (h.setCell _ v)
theorem setCells_grown {w : World} {row : Option Nat} (b : Nat) (hp : row = some b ∨ w.heap.size ≤ b) : ∀ (vs : List Value) (o : Nat) (W : World), w.grownBy W row → w.grownBy (W.setCells b o vs) row
 | [], _, _, h => h
 | v :: r, o, _, h => setCells_grown b hp r (o + 1) _ (grown_setCell h ⟨b, o, none⟩ v hp)
def GSpoilRel (w : World) (row : Option Nat) (g g' n n' : Nat) (wr : World) : Prop := BlkN wr 28 g n ∧ BlkN wr 28 g' n' ∧ w.grownBy wr row
theorem GSpoilRel.set {w wr : World} {row : Option Nat} {g g' n n' : Nat} (h : GSpoilRel w row g g' n n' wr) {b : Nat} (o : Nat) (vs : List Value) (hp : row = some b ∨ w.heap.size ≤ b) : GSpoilRel w row g g' n n' (wr.setCells b o vs) :=
 ⟨setCells_blk (w := w) b vs o wr h.1, setCells_blk (w := w) b vs o wr h.2.1, setCells_grown b hp vs o wr h.2.2⟩
def tynilV : Value := .slice none 0 0
theorem joinG_truth (x : Ng) (ps : List Pt) : (joinG x ps).truth = truthG x.kind := by
 unfold joinG
 split
 ·split <;> rfl
 ·rfl
theorem checkG_er {t : List Ng} {x : Nat × Int} (h : walkG [] 0 t = .error x) : checkG t = x := by rw [checkG, h]
theorem heavy_none : ∀ (l : List Ng) (w k : Nat), heavyG w k l = none ↔ (l = [] ∨ w + weightG l ≤ 3000)
 | [], w, k => by simp [heavyG]
 | x :: l, w, k => by
  have e : weightG (x :: l) = weighG x + weightG l := by simp [weightG]
  simp only [heavyG]
  by_cases h : 3000 < w + weighG x
  ·rw [if_pos h]
   constructor
   ·intro h2; cases h2
   ·intro h2; rcases h2 with h2 | h2
    ·cases h2
    ·omega
  ·rw [if_neg h, heavy_none l (w + weighG x) (k + 1)]
   constructor
   ·rintro (rfl | h2)
    ·right; rw [e]; simp [weightG]; omega
    ·right; omega
   ·rintro (h2 | h2)
    ·cases h2
    ·right; omega
theorem filt_iff {t : List Ng} : (checkG t).2 = 0 ↔ ∃ p, walkG [] 0 t = .ok [p] ∧ p.truth = true ∧ weightG t ≤ 3000 := by
 constructor
 ·intro h
  cases hw : walkG [] 0 t with
  | error x =>
   obtain ⟨k, e⟩ := x
   rw [checkG_er hw] at h
   have := walkG_er t [] 0 hw
   simp only at h
   omega
  | ok st =>
   rw [checkG, hw] at h
   simp only at h
   split at h
   ·cases h
   ·rename_i hl
    split at h
    ·cases h
    ·rename_i ht
     match st, hl with
     | [p], _ =>
      refine ⟨p, rfl, by simpa using ht, ?_⟩
      cases hh : heavyG 0 0 t with
      | some q => rw [hh] at h; cases h
      | none =>
       rcases (heavy_none t 0 0).1 hh with rfl | h2
       ·simp [weightG]
       ·omega
     | [], hl => exact absurd (by simp) hl
     | _ :: _ :: _, hl => exact absurd (by simp) hl
 ·rintro ⟨p, hw, hp, hwt⟩
  rw [checkG, hw]
  simp only [List.length_singleton, ne_eq, not_true_eq_false, if_false, List.getD_cons_zero, hp]
  rw [(heavy_none t 0 0).2 (.inr (by omega))]
  rfl
theorem weighG_pos {x : Ng} (h : 1 ≤ x.kind ∧ x.kind ≤ 16) : 1 ≤ weighG x := by
 obtain ⟨k, hk⟩ : ∃ k : Nat, x.kind = k := Int.eq_ofNat_of_zero_le (by omega)
 unfold weighG
 rw [hk]
 rcases sixteen (k := k) (by omega) (by omega) with rfl | rfl | rfl | rfl | rfl | rfl | rfl | rfl | rfl | rfl | rfl | rfl | rfl | rfl | rfl | rfl
 all_goals first
  | exact Nat.le_refl 1
  | (show 1 ≤ (_ : Nat); simp; done)
  | (simp; split <;> omega)
theorem walkG_weighs : ∀ (l : List Ng) (st s : List Pt) (k : Nat), walkG st k l = .ok s → l.length ≤ weightG l
 | [], _, _, _, _ => Nat.le_refl _
 | x :: l, st, s, k, h => by
  simp only [walkG] at h
  cases hs : stepG x st with
  | error e => rw [hs] at h; cases h
  | ok s1 =>
   rw [hs] at h
   have := walkG_weighs l s1 s (k + 1) h
   have hx : 1 ≤ weighG x := by
    unfold stepG at hs
    split at hs
    ·cases hs
    ·rename_i a ha
     exact weighG_pos (arG_in ha)
   have e : weightG (x :: l) = weighG x + weightG l := by simp [weightG]
   rw [List.length_cons]
   omega
theorem filt_len {t : List Ng} (h : (checkG t).2 = 0) : t.length ≤ 3000 := by
 obtain ⟨p, hw, -, hwt⟩ := filt_iff.1 h
 have := walkG_weighs t [] _ 0 hw
 omega

end Go.Proofs.YtghbbephhoniaaaGreatDoor
