/-
  Nodes in memory: twenty-four cells each; SameNodes, SpoilNodes. What is read is read off the front; fuel enough is enough. No Go text here. Fuel enough is enough. No Go text here.
-/
import Derived.Test.YtbdmpjnlgdahmaaGreatDoorLotP6
import Derived.Test.YtbdmpjnlgdahmaaGreatDoorLotP3
import Derived.Test.YtbdmpjnlgdahmaaGreatDoorLotP1
import Derived.Test.YtbdmpjnlgdahmaaGreatDoorLotP7
import Derived.Laws.StructEq
import Derived.Deep.MidRow
namespace Go.Proofs.YtbdmpjnlgdahmaaGreatDoor
open Go.RowKit
set_option maxRecDepth 100000

def adr (x : Nd) (i : Nat) : Value := .int .u8 ((x.addr.getD i 0).toNat : Int)
def Nd.cells (x : Nd) : List Value := [.int .i64 (x.kind : Int), .int .i64 (x.op : Int), .int .u32 (x.n : Int), .int .u32 (x.m : Int), .int .i64 (x.size : Int), .int .i64 (x.of : Int), .int .i64 (x.side : Int),
  adr x 0, adr x 1, adr x 2, adr x 3, adr x 4, adr x 5, adr x 6, adr x 7, adr x 8, adr x 9, adr x 10, adr x 11, adr x 12, adr x 13, adr x 14, adr x 15, .int .i64 (x.bits : Int)]
theorem Nd.cells_len (x : Nd) : x.cells.length = 24 := rfl

/-- The cells of a list of them. -/
def flatN (xs : List Nd) : List Value := xs.flatMap Nd.cells

theorem flatN_nil : flatN [] = [] := rfl
theorem flatN_cons (x : Nd) (xs : List Nd) : flatN (x :: xs) = x.cells ++ flatN xs := rfl
theorem flatN_append (xs ys : List Nd) : flatN (xs ++ ys) = flatN xs ++ flatN ys := by simp only [flatN, List.flatMap_append]
theorem flatN_one1 (x : Nd) : flatN [x] = x.cells := by rw [flatN_cons, flatN_nil, List.append_nil]

theorem flatN_len (xs : List Nd) : (flatN xs).length = xs.length * 24 := by
  induction xs with
  | nil => rfl
  | cons x xs ih => rw [flatN_cons, List.length_append, ih, List.length_cons, Nd.cells_len]; omega

theorem flatN_get (xs : List Nd) (i j : Nat) (hi : i < xs.length) (hj : j < 24) : (flatN xs)[i * 24 + j]? = (xs[i].cells)[j]? := by
  induction xs generalizing i with
  | nil => simp at hi
  | cons x xs ih =>
    rw [flatN_cons]
    have hl : x.cells.length = 24 := rfl
    cases i with
    | zero => rw [List.getElem?_append_left (by omega)]; simp
    | succ i =>
      rw [List.getElem?_append_right (by omega), hl, show (i + 1) * 24 + j - 24 = i * 24 + j by omega, ih i (by simpa using hi)]
      simp

theorem Nd.cells_one (x : Nd) : ∀ u ∈ x.cells, u.oneCell' = true := by
  intro u hu
  simp only [Nd.cells, adr, List.mem_cons, List.not_mem_nil, or_false] at hu
  rcases hu with rfl | rfl | rfl | rfl | rfl | rfl | rfl | rfl | rfl | rfl | rfl | rfl | rfl | rfl | rfl | rfl | rfl | rfl | rfl | rfl | rfl | rfl | rfl | rfl <;> rfl
theorem flatN_one (xs : List Nd) : ∀ u ∈ flatN xs, u.oneCell' = true := by
  intro u hu
  obtain ⟨x, _, hx⟩ := List.mem_flatMap.1 hu
  exact x.cells_one u hx

theorem CV.nodes {w : World} {ao : Option Addr} {xs : List Nd} (h : CV w ao (flatN xs)) {k : Nat} (hk : k < xs.length) :
    ∃ b off, ao = some ⟨b, off, none⟩ ∧ ∀ i (hi : i < xs.length), w.rangeAt b (off + i * 24) xs[i].cells := by
  have hl := flatN_len xs
  obtain ⟨b, off, hao, hc⟩ := h.addr (k := k * 24) (by omega)
  refine ⟨b, off, hao, fun i hi j v hv => ?_⟩
  have hj : j < 24 := (List.getElem?_eq_some_iff.1 hv).1
  rw [← flatN_get xs i j hi hj] at hv
  rw [Nat.add_assoc, hc (i * 24 + j) (by omega), ← hv, List.getElem?_eq_getElem (by omega)]

theorem size46 : (Tryz.prog.info? 46).map (·.size) = some 24 := by kernel_rfl
theorem info46 : (Tryz.prog.info? 46).map (fun i => (i.zero, i.size, i.bytes)) = some (some (.agg nd0.cells.toArray), 24, 72) := by kernel_rfl
/-- An owned row of nodes. -/
abbrev NOwns (w : World) (base : Nat) (v : Value) (xs : List Nd) : Prop := w.ownsRow base 46 24 v xs.length (flatN xs)

theorem eqFields_refl {P : Program} (d : Nat) (xs : Array Value) (w : World) : ∀ fs : List Field, (∀ f ∈ fs, ∃ a, (part f.type xs f.offset).run P w = .ok a w ∧ (Op.equalIn d f.type a a).run P w = .ok true w) → (Op.eqFields d xs xs fs).run P w = .ok true w
  | [], _ => by simp [Op.eqFields]
  | f :: fs, h => by
    obtain ⟨a, h1, h2⟩ := h f (List.mem_cons_self ..)
    have ih := eqFields_refl d xs w fs (fun g hg => h g (List.mem_cons_of_mem _ hg))
    unfold Op.eqFields
    split
    · simp only [Sem.run_bind, h1, h2, Result.andThen_ok, Bool.not_true, Bool.false_eq_true, if_false]
      exact ih
    · exact ih
theorem eq_arr {P : Program} {t e : TypeId} {n : Nat} {i : TypeInfo} (d : Nat) (hu : P.underlying t = some (.array n e)) (hi : P.info? e = some i) (he : P.underlying e = some (.int .u8)) (hk : P.plainKey e = true) (hc : P.cellsOf e = 1) (xs : List UInt8) (hx : xs.length = n) (w : World) :
    (Op.equalIn (d + 2) t (.agg (xs.map bv).toArray) (.agg (xs.map bv).toArray)).run P w = .ok true w := by
  rw [run_equalIn_array w (d + 1) _ _ hu hi, hc, List.range_eq_range', items_bytes d e he hk xs xs w rfl n 0 (by omega)]
  simp
def adrs (x : Nd) : List UInt8 := [x.addr.getD 0 0, x.addr.getD 1 0, x.addr.getD 2 0, x.addr.getD 3 0, x.addr.getD 4 0, x.addr.getD 5 0, x.addr.getD 6 0, x.addr.getD 7 0, x.addr.getD 8 0, x.addr.getD 9 0, x.addr.getD 10 0, x.addr.getD 11 0, x.addr.getD 12 0, x.addr.getD 13 0, x.addr.getD 14 0, x.addr.getD 15 0]
theorem node_fields : (Tryz.prog.fieldsOf 46).toList.map (fun f => (f.type, f.offset)) = [(3, 0), (3, 1), (40, 2), (40, 3), (3, 4), (3, 5), (3, 6), (44, 7), (3, 23)] := by kernel_rfl
theorem node_eq (x : Nd) (w : World) : (Op.equalIn 10000 46 (.agg x.cells.toArray) (.agg x.cells.toArray)).run Tryz.prog w = .ok true w := by
  obtain ⟨i0, hi, -⟩ := info_parts info5
  rw [show (10000 : Nat) = 9999 + 1 from rfl, run_equalIn_struct w 9999 _ _ _ (by kernel_rfl) (by kernel_rfl)]
  refine eqFields_refl 9999 _ w _ (fun f hf => ?_)
  have hm : (f.type, f.offset) ∈ (Tryz.prog.fieldsOf 46).toList.map (fun f => (f.type, f.offset)) := List.mem_map_of_mem hf
  rw [node_fields] at hm
  generalize f.type = ft at *
  generalize f.offset = fo at *
  simp only [List.mem_cons, Prod.mk.injEq, List.not_mem_nil, or_false] at hm
  rcases hm with ⟨rfl, rfl⟩ | ⟨rfl, rfl⟩ | ⟨rfl, rfl⟩ | ⟨rfl, rfl⟩ | ⟨rfl, rfl⟩ | ⟨rfl, rfl⟩ | ⟨rfl, rfl⟩ | ⟨rfl, rfl⟩ | ⟨rfl, rfl⟩
  · exact ⟨.int .i64 (x.kind : Int), by kernel_rfl, by rw [run_equalIn_int w 9998 _ _ .i64 _ _ Tryz.underlying3]; simp⟩
  · exact ⟨.int .i64 (x.op : Int), by kernel_rfl, by rw [run_equalIn_int w 9998 _ _ .i64 _ _ Tryz.underlying3]; simp⟩
  · exact ⟨.int .u32 (x.n : Int), by kernel_rfl, by rw [run_equalIn_int w 9998 _ _ .u32 _ _ Tryz.underlying40]; simp⟩
  · exact ⟨.int .u32 (x.m : Int), by kernel_rfl, by rw [run_equalIn_int w 9998 _ _ .u32 _ _ Tryz.underlying40]; simp⟩
  · exact ⟨.int .i64 (x.size : Int), by kernel_rfl, by rw [run_equalIn_int w 9998 _ _ .i64 _ _ Tryz.underlying3]; simp⟩
  · exact ⟨.int .i64 (x.of : Int), by kernel_rfl, by rw [run_equalIn_int w 9998 _ _ .i64 _ _ Tryz.underlying3]; simp⟩
  · exact ⟨.int .i64 (x.side : Int), by kernel_rfl, by rw [run_equalIn_int w 9998 _ _ .i64 _ _ Tryz.underlying3]; simp⟩
  · exact ⟨.agg ((adrs x).map bv).toArray, by kernel_rfl, eq_arr 9997 Tryz.underlying44 hi Tryz.underlying5 (by kernel_rfl) (by kernel_rfl) (adrs x) rfl w⟩
  · exact ⟨.int .i64 (x.bits : Int), by kernel_rfl, by rw [run_equalIn_int w 9998 _ _ .i64 _ _ Tryz.underlying3]; simp⟩

end Go.Proofs.YtbdmpjnlgdahmaaGreatDoor

namespace Go.Proofs.YtbdmpjnlgdahmaaGreatDoor
open Go.RowKit
set_option maxRecDepth 100000

theorem hd_ne {ts : List Tk} (h : (hdT ts).kind ≠ 0) : ts ≠ [] := by
  rintro rfl
  exact h rfl
theorem isB_kind {ts : List Tk} {x : List UInt8} (h : isB ts x = true) : (hdT ts).kind = 5 ∨ (hdT ts).kind = 2 := by
  unfold isB at h
  simp only [Bool.and_eq_true, Bool.or_eq_true, beq_iff_eq] at h
  exact h.1
theorem isB_text {ts : List Tk} {x : List UInt8} (h : isB ts x = true) : (hdT ts).text = x := by
  unfold isB at h
  simp only [Bool.and_eq_true, beq_iff_eq] at h
  exact h.2
theorem isB_ne {ts : List Tk} {x : List UInt8} (h : isB ts x = true) : ts ≠ [] := hd_ne (by have := isB_kind h; omega)

/-- A later end of the same list. -/
def Fr (ts r : List Tk) : Prop := r <:+ ts ∧ r.length < ts.length
theorem fr_tail {ts : List Tk} (h : ts ≠ []) : Fr ts ts.tail := ⟨List.tail_suffix ts, by cases ts with
  | nil => exact absurd rfl h
  | cons a r => simp⟩
theorem Fr.trans {a b c : List Tk} (h : Fr a b) (k : Fr b c) : Fr a c := ⟨k.1.trans h.1, Nat.lt_trans k.2 h.2⟩

theorem thenE_inv {α β : Type} {x : Except Er α} {f : α → Except Er β} {y : β} (h : thenE x f = .ok y) : ∃ v, x = .ok v ∧ f v = .ok y := by
  cases x with
  | error e => cases h
  | ok v => exact ⟨v, rfl, h⟩
theorem must_fr {x : List UInt8} {ts r : List Tk} (h : mustV x ts = .ok r) : Fr ts r := by
  unfold mustV at h
  split at h
  · rename_i hb
    cases h
    exact fr_tail (isB_ne hb)
  · cases h
theorem num_fr {ts r : List Tk} {n : Nat} (h : numT ts = .ok (n, r)) : Fr ts r := by
  unfold numT at h
  split at h
  · rename_i hk
    cases h
    exact fr_tail (hd_ne (by omega))
  · cases h
theorem addr_fr {k : Nat} {ts r : List Tk} {d : Nd} (h : addrT k ts = .ok (d, r)) : Fr ts r := by
  unfold addrT at h
  split at h
  · rename_i hk
    split at h
    · cases h
      exact fr_tail (hd_ne (by omega))
    · cases h
  · split at h
    · rename_i hk
      split at h
      · cases h
        exact fr_tail (hd_ne (by omega))
      · cases h
    · cases h
theorem sidedB_fr {of at' side : Nat} {ts r : List Tk} {ns : List (Nd × Nat)} (h : sidedB of at' side ts = .ok (ns, r)) : Fr ts r ∧ ns ≠ [] := by
  unfold sidedB at h
  split at h
  · rename_i hb
    obtain ⟨⟨n, r1⟩, h1, h2⟩ := thenE_inv h
    cases h2
    exact ⟨(fr_tail (isB_ne hb)).trans (num_fr h1), by simp⟩
  · split at h
    · rename_i hb
      obtain ⟨⟨n, r1⟩, h1, h2⟩ := thenE_inv h
      obtain ⟨r2, h3, h4⟩ := thenE_inv h2
      obtain ⟨⟨m, r3⟩, h5, h6⟩ := thenE_inv h4
      cases h6
      exact ⟨(((fr_tail (isB_ne hb)).trans (num_fr h1)).trans (must_fr h3)).trans (num_fr h5), by simp⟩
    · split at h
      · rename_i hb
        obtain ⟨⟨n, r1⟩, h1, h2⟩ := thenE_inv h
        cases h2
        exact ⟨(fr_tail (isB_ne hb.2)).trans (addr_fr h1), by simp⟩
      · split at h
        · rename_i hb
          obtain ⟨⟨n, r1⟩, h1, h2⟩ := thenE_inv h
          obtain ⟨r2, h3, h4⟩ := thenE_inv h2
          obtain ⟨⟨m, r3⟩, h5, h6⟩ := thenE_inv h4
          cases h6
          exact ⟨(((fr_tail (isB_ne hb.2)).trans (addr_fr h1)).trans (must_fr h3)).trans (num_fr h5), by simp⟩
        · cases h
theorem sideR_sfx (ts : List Tk) : sideR ts <:+ ts := by
  unfold sideR
  split
  · exact List.suffix_refl _
  · exact List.tail_suffix _
theorem sided_fr {of at' : Nat} {ts r : List Tk} {ns : List (Nd × Nat)} (h : sidedV of at' ts = .ok (ns, r)) : Fr ts r ∧ ns ≠ [] := by
  obtain ⟨h1, h2⟩ := sidedB_fr h
  exact ⟨⟨h1.1.trans (sideR_sfx ts), Nat.lt_of_lt_of_le h1.2 (sideR_sfx ts).length_le⟩, h2⟩
theorem word_fr {ts r : List Tk} {ns : List (Nd × Nat)} (hk : (hdT ts).kind = 2) (h : wordF ts = .ok (ns, r)) : Fr ts r ∧ ns ≠ [] := by
  have hne := hd_ne (ts := ts) (by omega)
  unfold wordF at h
  split at h
  · cases h; exact ⟨fr_tail hne, by simp⟩
  · split at h
    · cases h; exact ⟨fr_tail hne, by simp⟩
    · split at h
      · cases h; exact ⟨fr_tail hne, by simp⟩
      · split at h
        · obtain ⟨⟨n, r1⟩, h1, h2⟩ := thenE_inv h
          cases h2
          exact ⟨(fr_tail hne).trans (num_fr h1), by simp⟩
        · split at h
          · exact sided_fr h
          · cases h
theorem size_fr {ts r : List Tk} {n : Nat} (h : sizeF ts = .ok (n, r)) : Fr ts r := by
  unfold sizeF at h
  split at h
  · rename_i hb
    obtain ⟨⟨n, r1⟩, h1, h2⟩ := thenE_inv h
    obtain ⟨r2, h3, h4⟩ := thenE_inv h2
    cases h4
    exact ((fr_tail (isB_ne hb)).trans (num_fr h1)).trans (must_fr h3)
  · obtain ⟨r2, h3, h4⟩ := thenE_inv h
    cases h4
    exact must_fr h3
theorem opn_inv {α : Type} {nest : Nat} {ts : List Tk} {x : Except Er α} {y : α} (h : opnV nest ts x = .ok y) : nest ≠ 200 ∧ x = .ok y := by
  unfold opnV at h
  split at h
  · cases h
  · rename_i hn; exact ⟨hn, h⟩
/-- What a reading of a row keeps to. -/
def FrO (rec : Nat → List Tk → Out) : Prop := ∀ nest ts ns r, rec nest ts = .ok (ns, r) → Fr ts r ∧ ns ≠ []
theorem name_fr {rec : Nat → List Tk → Out} (hr : FrO rec) {nest of at' : Nat} {ts r : List Tk} {ns : List (Nd × Nat)} (h : nameF rec nest of at' ts = .ok (ns, r)) : r <:+ ts ∧ ns ≠ [] := by
  unfold nameF at h
  split at h
  · rename_i hb
    obtain ⟨-, h⟩ := opn_inv h
    obtain ⟨⟨n1, r1⟩, h1, h2⟩ := thenE_inv h
    obtain ⟨⟨n2, r2⟩, h3, h4⟩ := thenE_inv h2
    cases h4
    exact ⟨((fr_tail (isB_ne hb.1)).trans ((hr _ _ _ _ h1).1.trans (size_fr h3))).1, by simp⟩
  · split at h
    · cases h
    · split at h
      · rename_i hb
        obtain ⟨⟨n, r1⟩, h1, h2⟩ := thenE_inv h
        cases h2
        exact ⟨((fr_tail (isB_ne hb.2)).trans (num_fr h1)).1, by simp⟩
      · split at h
        · exact ⟨(sided_fr h).1.1, (sided_fr h).2⟩
        · cases h
          exact ⟨List.suffix_refl _, by simp⟩
theorem part_fr {rec : Nat → List Tk → Out} (hr : FrO rec) : FrO (partF rec) := by
  intro nest ts ns r h
  unfold partF at h
  split at h
  · cases h
    exact ⟨fr_tail (hd_ne (by omega)), by simp⟩
  · split at h
    · rename_i hb
      obtain ⟨-, h⟩ := opn_inv h
      obtain ⟨⟨n1, r1⟩, h1, h2⟩ := thenE_inv h
      obtain ⟨r2, h3, h4⟩ := thenE_inv h2
      cases h4
      exact ⟨(fr_tail (isB_ne hb)).trans ((hr _ _ _ _ h1).1.trans (must_fr h3)), (hr _ _ _ _ h1).2⟩
    · split at h
      · cases h
      · rename_i hk
        have hk' : (hdT ts).kind = 2 := Decidable.byContradiction hk
        have hne := hd_ne (ts := ts) (by omega)
        split at h
        · obtain ⟨h1, h2⟩ := name_fr hr h
          have ht := fr_tail hne
          exact ⟨⟨h1.trans ht.1, Nat.lt_of_le_of_lt h1.length_le ht.2⟩, h2⟩
        · exact word_fr hk' h
theorem loop_fr {rec : List Tk → Out} (hr : ∀ ts ns r, rec ts = .ok (ns, r) → Fr ts r ∧ ns ≠ []) (k : Nat) : ∀ (f : Nat) (ns : List (Nd × Nat)) (ts : List Tk) (ms : List (Nd × Nat)) (r : List Tk), loopG rec k f ns ts = .ok (ms, r) → r <:+ ts ∧ (ns ≠ [] → ms ≠ [])
  | 0, ns, ts, ms, r, h => by
    cases h
    exact ⟨List.suffix_refl _, fun h => h⟩
  | f + 1, ns, ts, ms, r, h => by
    unfold loopG at h
    split at h
    · cases h
      exact ⟨List.suffix_refl _, fun h => h⟩
    · obtain ⟨⟨n1, r1⟩, h1, h2⟩ := thenE_inv h
      have hf := (hr _ _ _ h1).1.1.trans (List.tail_suffix ts)
      split at h2
      · cases h2
        exact ⟨hf, fun _ => by simp⟩
      · obtain ⟨h3, h4⟩ := loop_fr hr k f _ _ _ _ h2
        exact ⟨h3.trans hf, fun _ => h4 (by simp)⟩
theorem row_fr : ∀ (f k : Nat), FrO (rowF f k)
  | 0, k => fun nest ts ns r h => by cases h
  | f + 1, k => fun nest ts ns r h => by
    have ih := row_fr f
    rw [row_succ] at h
    unfold stepR at h
    split at h
    · rename_i hb
      obtain ⟨-, h⟩ := opn_inv h
      obtain ⟨⟨n1, r1⟩, h1, h2⟩ := thenE_inv h
      cases h2
      have hne : ts ≠ [] := by rcases hb.2 with hb | hb <;> exact isB_ne hb
      exact ⟨(fr_tail hne).trans (ih 3 _ _ _ _ h1).1, by simp⟩
    · split at h
      · rename_i hb
        obtain ⟨-, h⟩ := opn_inv h
        obtain ⟨⟨n1, r1⟩, h1, h2⟩ := thenE_inv h
        cases h2
        exact ⟨(fr_tail (isB_ne hb.2)).trans (ih 11 _ _ _ _ h1).1, by simp⟩
      · split at h
        · exact ih (k + 1) _ _ _ _ h
        · split at h
          · exact part_fr (ih 1) _ _ _ _ h
          · obtain ⟨⟨n1, r1⟩, h1, h2⟩ := thenE_inv h
            obtain ⟨h3, h4⟩ := ih (k + 1) _ _ _ _ h1
            obtain ⟨h5, h6⟩ := loop_fr (fun ts ns r h => ih (k + 1) nest ts ns r h) k _ _ _ _ _ h2
            exact ⟨⟨h5.trans h3.1, Nat.lt_of_le_of_lt h5.length_le h3.2⟩, h6 h4⟩

end Go.Proofs.YtbdmpjnlgdahmaaGreatDoor

namespace Go.Proofs.YtbdmpjnlgdahmaaGreatDoor
open Go.RowKit
set_option maxRecDepth 100000

/-- The one answer that tells of too little fuel. -/
def exP : Er := (0, 0)
theorem then_mono {α β : Type} {x y : Except Er α} {F G : α → Except Er β} (h1 : x ≠ .error exP → y = x) (h2 : ∀ v, x = .ok v → F v ≠ .error exP → G v = F v) (h : thenE x F ≠ .error exP) : thenE y G = thenE x F := by
  cases hx : x with
  | error e =>
    rw [hx] at h h1
    rw [h1 (fun e' => h (by rw [Except.error.inj e']; rfl))]
    rfl
  | ok v =>
    rw [hx] at h h1
    rw [h1 (by simp)]
    exact h2 v hx h
theorem opn_mono {α : Type} {nest : Nat} {ts : List Tk} {x y : Except Er α} (h1 : x ≠ .error exP → y = x) (h : opnV nest ts x ≠ .error exP) : opnV nest ts y = opnV nest ts x := by
  unfold opnV at *
  split
  · rfl
  · rename_i hn
    rw [if_neg hn] at h
    exact h1 h
/-- One reading tells as much as another, wherever that has fuel enough. -/
def MonO (a b : Nat → List Tk → Out) : Prop := ∀ nest ts, a nest ts ≠ .error exP → b nest ts = a nest ts
theorem name_mono {a b : Nat → List Tk → Out} (hm : MonO a b) {nest of at' : Nat} {ts : List Tk} (h : nameF a nest of at' ts ≠ .error exP) : nameF b nest of at' ts = nameF a nest of at' ts := by
  unfold nameF at *
  split
  · rename_i hb
    rw [if_pos hb] at h
    exact opn_mono (fun h => then_mono (fun h => hm _ _ h) (fun v _ _ => rfl) h) h
  · rfl
theorem part_mono {a b : Nat → List Tk → Out} (hm : MonO a b) : MonO (partF a) (partF b) := by
  intro nest ts h
  unfold partF at *
  split
  · rfl
  · rename_i h1
    rw [if_neg h1] at h
    split
    · rename_i hb
      rw [if_pos hb] at h
      exact opn_mono (fun h => then_mono (fun h => hm _ _ h) (fun v _ _ => rfl) h) h
    · rename_i h2
      rw [if_neg h2] at h
      split
      · rfl
      · rename_i h3
        rw [if_neg h3] at h
        split
        · rename_i h4
          rw [if_pos h4] at h
          exact name_mono hm h
        · rfl
theorem loop_mono {a b : List Tk → Out} (hm : ∀ ts, a ts ≠ .error exP → b ts = a ts) (k : Nat) : ∀ (f : Nat) (ns : List (Nd × Nat)) (ts : List Tk), loopG a k f ns ts ≠ .error exP → loopG b k f ns ts = loopG a k f ns ts
  | 0, ns, ts, _ => rfl
  | f + 1, ns, ts, h => by
    unfold loopG at *
    split
    · rfl
    · rename_i nd hnd
      rw [hnd] at h
      refine then_mono (fun h => hm _ h) (fun v _ h2 => ?_) h
      split
      · rfl
      · rename_i hk
        rw [if_neg hk] at h2
        exact loop_mono hm k f _ _ h2
theorem row_mono : ∀ (f k : Nat), MonO (rowF f k) (rowF (f + 1) k)
  | 0, k => fun nest ts h => absurd rfl h
  | f + 1, k => fun nest ts h => by
    have ih := row_mono f
    rw [row_succ] at h
    rw [row_succ (f + 1), row_succ f]
    unfold stepR at *
    split
    · rename_i h1
      rw [if_pos h1] at h
      exact opn_mono (fun h => then_mono (fun h => ih 3 _ _ h) (fun v _ _ => rfl) h) h
    · rename_i h1
      rw [if_neg h1] at h
      split
      · rename_i h2
        rw [if_pos h2] at h
        exact opn_mono (fun h => then_mono (fun h => ih 11 _ _ h) (fun v _ _ => rfl) h) h
      · rename_i h2
        rw [if_neg h2] at h
        split
        · rename_i h3
          rw [if_pos h3] at h
          exact ih (k + 1) _ _ h
        · rename_i h3
          rw [if_neg h3] at h
          split
          · rename_i h4
            rw [if_pos h4] at h
            exact part_mono (ih 1) _ _ h
          · rename_i h4
            rw [if_neg h4] at h
            exact then_mono (fun h => ih (k + 1) _ _ h) (fun v _ h2 => loop_mono (fun ts h => ih (k + 1) nest ts h) k _ _ _ h2) h
theorem row_more {f g k nest : Nat} {ts : List Tk} (hfg : f ≤ g) (h : rowF f k nest ts ≠ .error exP) : rowF g k nest ts = rowF f k nest ts := by
  induction g with
  | zero =>
    obtain rfl : f = 0 := by omega
    rfl
  | succ g ih =>
    by_cases hg : f ≤ g
    · rw [row_mono g k nest ts (by rw [ih hg]; exact h), ih hg]
    · obtain rfl : f = g + 1 := by omega
      rfl

/-- Errors that are told. -/
theorem fail_told {α : Type} (ts : List Tk) (e : Int) (he : e ≠ 0) : (failV ts e : Except Er α) ≠ .error exP := by
  intro h
  have := congrArg Prod.snd (Except.error.inj h)
  simp only [exP] at this
  split at this
  · cases this
  · exact he this
theorem then_told {α β : Type} {x : Except Er α} {F : α → Except Er β} (h1 : x ≠ .error exP) (h2 : ∀ v, x = .ok v → F v ≠ .error exP) : thenE x F ≠ .error exP := by
  cases hx : x with
  | error e => rw [hx] at h1; exact fun h => h1 (by rw [Except.error.inj h])
  | ok v => exact h2 v hx
theorem opn_told {α : Type} {nest : Nat} {ts : List Tk} {x : Except Er α} (h : x ≠ .error exP) : opnV nest ts x ≠ .error exP := by
  unfold opnV
  split
  · intro e
    have := congrArg Prod.snd (Except.error.inj e)
    cases this
  · exact h
theorem must_told (x : List UInt8) (ts : List Tk) : mustV x ts ≠ .error exP := by
  unfold mustV
  split
  · simp
  · exact fail_told _ _ (by decide)
theorem num_told (ts : List Tk) : numT ts ≠ .error exP := by
  unfold numT
  split
  · simp
  · exact fail_told _ _ (by decide)
theorem addr_told (k : Nat) (ts : List Tk) : addrT k ts ≠ .error exP := by
  unfold addrT
  split
  · split
    · simp
    · exact fail_told _ _ (by decide)
  · split
    · split
      · simp
      · exact fail_told _ _ (by decide)
    · exact fail_told _ _ (by decide)
theorem sided_told (of at' : Nat) (ts : List Tk) : sidedV of at' ts ≠ .error exP := by
  unfold sidedV sidedB
  split
  · exact then_told (num_told _) (fun v _ => by simp)
  · split
    · exact then_told (num_told _) (fun v _ => then_told (must_told _ _) (fun v _ => then_told (num_told _) (fun v _ => by simp)))
    · split
      · exact then_told (addr_told _ _) (fun v _ => by simp)
      · split
        · exact then_told (addr_told _ _) (fun v _ => then_told (must_told _ _) (fun v _ => then_told (num_told _) (fun v _ => by simp)))
        · exact fail_told _ _ (by decide)
theorem word_told (ts : List Tk) : wordF ts ≠ .error exP := by
  unfold wordF
  split
  · simp
  · split
    · simp
    · split
      · simp
      · split
        · exact then_told (num_told _) (fun v _ => by simp)
        · split
          · exact sided_told _ _ _
          · exact fail_told _ _ (by decide)
theorem size_told (ts : List Tk) : sizeF ts ≠ .error exP := by
  unfold sizeF
  split
  · exact then_told (num_told _) (fun v _ => then_told (must_told _ _) (fun v _ => by simp))
  · exact then_told (must_told _ _) (fun v _ => by simp)
theorem part_told {rec : Nat → List Tk → Out} {ts : List Tk} (h : ∀ nest r, Fr ts r → rec nest r ≠ .error exP) (nest : Nat) : partF rec nest ts ≠ .error exP := by
  unfold partF
  split
  · simp
  · split
    · rename_i hb
      exact opn_told (then_told (h _ _ (fr_tail (isB_ne hb))) (fun v _ => then_told (must_told _ _) (fun v _ => by simp)))
    · split
      · exact fail_told _ _ (by decide)
      · rename_i hk
        have hne := hd_ne (ts := ts) (by omega)
        split
        · unfold nameF
          split
          · rename_i hb
            exact opn_told (then_told (h _ _ ((fr_tail hne).trans (fr_tail (isB_ne hb.1)))) (fun v _ => then_told (size_told _) (fun v _ => by simp)))
          · split
            · exact fail_told _ _ (by decide)
            · split
              · exact then_told (num_told _) (fun v _ => by simp)
              · split
                · exact sided_told _ _ _
                · simp
        · exact word_told _
theorem loop_told {rec : List Tk → Out} {top : List Tk} (hf : ∀ ts ns r, rec ts = .ok (ns, r) → Fr ts r ∧ ns ≠ []) (h : ∀ r, Fr top r → rec r ≠ .error exP) (k : Nat) : ∀ (f : Nat) (ns : List (Nd × Nat)) (ts : List Tk), Fr top ts → loopG rec k f ns ts ≠ .error exP
  | 0, ns, ts, _ => by
    unfold loopG
    simp
  | f + 1, ns, ts, ht => by
    unfold loopG
    split
    · simp
    · rename_i nd hnd
      have hne : ts ≠ [] := by
        rintro rfl
        unfold opT at hnd
        rw [if_neg (by decide)] at hnd
        cases hnd
      refine then_told (h _ (ht.trans (fr_tail hne))) (fun v hv => ?_)
      split
      · simp
      · exact loop_told hf h k f _ _ (ht.trans ((fr_tail hne).trans (hf _ v.1 v.2 hv).1))
/-- Fuel enough. -/
theorem row_told : ∀ (f k nest : Nat) (ts : List Tk), k ≤ 12 → needF k ts ≤ f → rowF f k nest ts ≠ .error exP
  | 0, k, nest, ts, hk, hn => by unfold needF at hn; omega
  | f + 1, k, nest, ts, hk, hn => by
    have ih := row_told f
    unfold needF at hn
    have below : ∀ k' nest' r, k' ≤ 12 → 1 ≤ k' → Fr ts r → rowF f k' nest' r ≠ .error exP := fun k' nest' r h1 h2 h3 => ih k' nest' r h1 (by have := h3.2; unfold needF; omega)
    rw [row_succ]
    unfold stepR
    split
    · rename_i hb
      have hne : ts ≠ [] := by rcases hb.2 with hb | hb <;> exact isB_ne hb
      exact opn_told (then_told (below 3 _ _ (by omega) (by omega) (fr_tail hne)) (fun v _ => by simp))
    · split
      · rename_i hb
        exact opn_told (then_told (below 11 _ _ (by omega) (by omega) (fr_tail (isB_ne hb.2))) (fun v _ => by simp))
      · split
        · exact ih (k + 1) _ _ (by omega) (by unfold needF; omega)
        · split
          · exact part_told (fun nest' r hr => below 1 nest' r (by omega) (by omega) hr) nest
          · have h1 : rowF f (k + 1) nest ts ≠ .error exP := ih (k + 1) _ _ (by omega) (by unfold needF; omega)
            refine then_told h1 (fun v hv => ?_)
            exact loop_told (top := ts) (fun ts ns r h => row_fr f (k + 1) nest ts ns r h) (fun r hr => below (k + 1) nest r (by omega) (by omega) hr) k _ _ _ (row_fr f (k + 1) nest ts v.1 v.2 hv).1
theorem row_same {f g k nest : Nat} {ts : List Tk} (hk : k ≤ 12) (hf : needF k ts ≤ f) (hg : needF k ts ≤ g) : rowF f k nest ts = rowF g k nest ts := by
  rcases Nat.le_total f g with h | h
  · exact (row_more h (row_told f k nest ts hk hf)).symm
  · exact row_more h (row_told g k nest ts hk hg)

end Go.Proofs.YtbdmpjnlgdahmaaGreatDoor
