/-
  A view in a block; the document's own Piece. The document's own token of lex.
-/
import Derived.Test.YtbdmpjnlgdahmaaGreatDoorLotP11
import Derived.Laws.Rows
import Derived.Laws.Tables
import Derived.Laws.ResultCell
import Derived.Deep.DeepCutAuto
import Derived.Test.YtbdmpjnlgdahmaaGreatDoorLotP10
namespace Go.Proofs.YtbdmpjnlgdahmaaGreatDoor
open Go.RowKit
set_option maxRecDepth 100000

def vwA (v : Vw) : Array Value := #[.int .u32 (v.proto : Int), .bool v.multi, .bool v.beg, .bool v.fin, .int .u32 (v.seq : Int), .int .i64 (v.pos : Int), .int .i64 (v.net : Int), .int .i64 (v.next : Int), .int .i64 (v.load : Int)]
/-- Cells lie in a block of their own. -/
def VAt (w : World) (g t : Nat) (cs : Array Value) : Prop := w.heap[g]? = some (.cells cs t (0, 0))
theorem VAt.cell {w : World} {g t : Nat} {cs : Array Value} (h : VAt w g t cs) (i : Nat) : w.cell? ⟨g, i, none⟩ = cs[i]? := cell_of_row w g i cs t (0, 0) h
theorem VAt.free {w : World} {g t : Nat} {cs : Array Value} (h : VAt w g t cs) (i : Nat) : w.frozen? ⟨g, i, none⟩ = false := by
  unfold VAt at h
  simp [World.frozen?, h]
theorem VAt.lt {w : World} {g t : Nat} {cs : Array Value} (h : VAt w g t cs) : g < w.heap.size := by
  unfold VAt at h
  by_cases hb : g < w.heap.size
  · exact hb
  · rw [Array.getElem?_eq_none (by omega)] at h; cases h
theorem VAt.grown {w w' : World} {g t : Nat} {cs : Array Value} {row : Option Nat} (h : VAt w g t cs) (G : w.grownBy w' row) (hr : row ≠ some g) : VAt w' g t cs := by
  have := G.block g h.lt (Ne.symm hr)
  unfold VAt at *
  rw [this, h]
theorem VAt.kept {w w' : World} {g t : Nat} {cs : Array Value} (h : VAt w g t cs) (G : w.grownBy w' none) : VAt w' g t cs := h.grown G (by simp)
theorem VAt.set {w : World} {g t : Nat} {cs : Array Value} (h : VAt w g t cs) (i : Nat) (v : Value) : VAt (w.setCell ⟨g, i, none⟩ v) g t (cs.setIfInBounds i v) := by
  unfold VAt at *
  simp only [World.setCell, Array.getElem?_modify, h, if_true, Option.map_some]
  rfl
theorem VAt.alloc (w : World) (t : Nat) (cs : Array Value) : VAt (w.alloc (.cells cs t)) w.heap.size t cs := heap_alloc_new w _
theorem VAt.setRow {w : World} {g t : Nat} {cs : Array Value} (h : VAt w g t cs) (ds : Array Value) : VAt (w.setRow g ds) g t ds := by
  unfold VAt at *
  exact setRow_heap w g _ _ t _ h
theorem vheap_setRow_ne (w : World) (g k : Nat) (cs : Array Value) (h : k ≠ g) : (w.setRow g cs).heap[k]? = w.heap[k]? := by
  simp [World.setRow, Array.getElem?_modify, Ne.symm h]
theorem vgrown_setRow {w W : World} {row : Option Nat} (G : w.grownBy W row) (g : Nat) (cs : Array Value) (hg : row = some g ∨ w.heap.size ≤ g) : w.grownBy (W.setRow g cs) row := by
  refine ⟨G.os, G.tape, G.output, by rw [setRow_size]; exact G.size, fun i hi hr => ?_⟩
  have : i ≠ g := by
    rintro rfl
    rcases hg with hg | hg
    · exact hr hg.symm
    · omega
  rw [vheap_setRow_ne _ _ _ _ this]
  exact G.block i hi hr
theorem VAt.other {w : World} {g t k : Nat} {cs : Array Value} (h : VAt w g t cs) (ds : Array Value) (hk : g ≠ k) : VAt (w.setRow k ds) g t cs := by
  unfold VAt at *
  rw [vheap_setRow_ne _ _ _ _ hk]
  exact h
theorem VAt.setOther {w : World} {g t k i : Nat} {cs : Array Value} (h : VAt w g t cs) (u : Value) (hk : g ≠ k) : VAt (w.setCell ⟨k, i, none⟩ u) g t cs := by
  unfold VAt at *
  simp only [World.setCell, Array.getElem?_modify, if_neg (Ne.symm hk)]
  exact h
/-- A result row that lies in a block, and a second result. -/
theorem ret_row {P : Program} {fn : Func} {p u : Tmp} {ty : TypeId} (h : fn.results = #[.cell p ty, .tmp u]) (tmps : Array Value) (w : World) (g : Nat) (cs : Array Value) (d : TypeDesc) (hp : tmps.getD p undef = .pointer (some ⟨g, 0, none⟩)) (A : VAt w g ty cs)
    (hu : P.underlying ty = some d) (hd : (match d with | .struct _ | .array _ _ => true | _ => false) = true) (hi : (P.info? ty).map (·.size) = some cs.size) : (results fn tmps).run P w = .ok (.tuple #[.agg cs, tmps.getD u undef]) w := by
  rw [results_cell_tmp h, hp]
  have := run_loadVar_row (P := P) w g ty ty cs (0, 0) _ A hu hd hi
  simp only [asAddr, Sem.run_pure, Result.andThen, this]

theorem vwA_all (v : Vw) : (vwA v).all (·.oneCell') = true := by simp [vwA, Value.oneCell']

/-- A boxed link, and a view behind it. -/
theorem two_blocks (w : World) (l : Lk) (t s : Nat) (cs : Array Value) :
    VAt ((w.alloc (.cells (lkA l) t)).alloc (.cells cs s)) w.heap.size t (lkA l) ∧ VAt ((w.alloc (.cells (lkA l) t)).alloc (.cells cs s)) (w.heap.size + 1) s cs ∧ w.grownBy ((w.alloc (.cells (lkA l) t)).alloc (.cells cs s)) none := by
  have A0 := VAt.alloc w t (lkA l)
  have A1 := VAt.alloc (w.alloc (.cells (lkA l) t)) s cs
  have K1 := World.grownBy_alloc (w.alloc (.cells (lkA l) t)) (.cells cs s) none
  rw [show (w.alloc (.cells (lkA l) t)).heap.size = w.heap.size + 1 by simp] at A1
  exact ⟨A0.kept K1, A1, grown_trans (World.grownBy_alloc w _ none) K1⟩

theorem plain_err {l : Lk} {b : List UInt8} {e : Int} (h : plainV l b = .error e) : (e != 0) = true := by
  unfold plainV at h
  split at h
  · cases h
  · split at h
    · cases h
    · split at h <;> cases h <;> rfl
theorem proto_err {l : Lk} {b : List UInt8} {p : Nat} {e : Int} (h : protoV l b p = .error e) : (e != 0) = true := by
  unfold protoV at h
  split at h
  · cases h; rfl
  · split at h
    · split at h <;> cases h; rfl
    · split at h
      · cases h; rfl
      · split at h <;> cases h; rfl
theorem head_err {l : Lk} {b : List UInt8} {p : Nat} {e : Int} (h : headV l b p = .error e) : (e != 0) = true := by
  unfold headV at h
  split at h
  · cases h; rfl
  · split at h <;> cases h; rfl

end Go.Proofs.YtbdmpjnlgdahmaaGreatDoor

namespace Go.Proofs.YtbdmpjnlgdahmaaGreatDoor
open Go.RowKit
set_option maxRecDepth 100000

def tkA (q p : Nat) (t : List UInt8) (n : Nat) : Array Value := #[.int .i64 (q : Int), .int .i64 (p : Int), str t, .int .u32 (n : Int)]
theorem size42 : (Tryz.prog.info? 42).map (·.size) = some 4 := by kernel_rfl

/-- What is told of a token. -/
def tokA (p : Nat) (x : Except Int (Nat × List UInt8 × Nat)) : Array Value := match x with
  | .ok (q, t, n) => tkA q p t n
  | .error _ => tkA 0 0 [] 0
def tokE (x : Except Int (Nat × List UInt8 × Nat)) : Int := match x with
  | .ok _ => 0
  | .error e => e

set_option maxRecDepth 100000 in
set_option maxHeartbeats 8000000 in
theorem reftok_any (s : ByteArray) (at' : Nat) (ha : at' < s.size) (hs : s.size ≤ 140737488355328) (w : World) :
    Calls Tryz.prog 38 #[.string s, .int .i64 (at' : Int)] w fun e w' => e = .returned (.tuple #[.agg (tokA at' (tokV ((sl s).drop at'))), .int .i64 (tokE (tokV ((sl s).drop at')))]) ∧ w.grownBy w' none := by
  obtain ⟨X, hX⟩ : ∃ X, (sl s).drop at' = X := ⟨_, rfl⟩
  have hhead : X.head? = some s[at'] := by rw [← hX, sl_drop s at' ha]; rfl
  have hXl : X.length ≤ 140737488355328 := by rw [← hX, List.length_drop, sl_len]; omega
  have HRUN : Hid (∀ (k : Nat) (_ : k = 1 ∨ k = 2 ∨ k = 3) (W : World), Calls Tryz.prog 57 #[.string s, .int .i64 (at' : Int), .int .i64 (k : Int)] W fun e w' => e = .returned (str (X.takeWhile (kindB k))) ∧ W = w') := fun k hk W => by
    have := refrun_any s at' k hk (by omega) hs W
    rw [hX] at this
    exact this
  have HCNT : Hid (∀ (xs : List UInt8) (c : UInt8) (W : World), xs.length ≤ 140737488355328 → Calls Tryz.prog 58 #[str xs, .int .u8 (c.toNat : Int)] W fun e w' => e = .returned (.int .i64 (xs.count c : Int)) ∧ W = w') := fun xs c W hl => refcount_any ⟨xs.toArray⟩ c (by rw [← sl_len, sl_str]; exact hl) W
  have HSG : Hid (∀ W : World, Calls Tryz.prog 62 #[.string s, .int .i64 (at' : Int)] W fun e w' => e = .returned (str (signV X)) ∧ W = w') := fun W => by
    have := refsign_any s at' ha hs W
    rw [hX] at this
    exact this
  have HNM : Hid (∀ (xs : List UInt8) (W : World), xs.length ≤ 140737488355328 → Calls Tryz.prog 60 #[str xs] W fun e w' => e = .returned (.tuple #[.int .u32 (((numV xs).getD 0 : Nat) : Int), .bool (numV xs).isSome]) ∧ W = w') := fun xs W hl => refnum_any ⟨xs.toArray⟩ (by rw [← sl_len, sl_str]; exact hl) W
  have hl1 := Nat.le_trans (takeWhile_len sixB X) hXl
  have hl2 := Nat.le_trans (takeWhile_len quadB X) hXl
  have hl3 := Nat.le_trans (takeWhile_len wordB X) hXl
  have R1 : Hid (∀ W : World, Calls Tryz.prog 57 #[.string s, .int .i64 (at' : Int), .int .i64 1] W fun e w' => e = .returned (str (X.takeWhile sixB)) ∧ W = w') := fun W => HRUN.out 1 (.inl rfl) W
  have R2 : Hid (∀ W : World, Calls Tryz.prog 57 #[.string s, .int .i64 (at' : Int), .int .i64 2] W fun e w' => e = .returned (str (X.takeWhile quadB)) ∧ W = w') := fun W => HRUN.out 2 (.inr (.inl rfl)) W
  have R3 : Hid (∀ W : World, Calls Tryz.prog 57 #[.string s, .int .i64 (at' : Int), .int .i64 3] W fun e w' => e = .returned (str (X.takeWhile wordB)) ∧ W = w') := fun W => HRUN.out 3 (.inr (.inr rfl)) W
  have C1 : Hid (∀ W : World, Calls Tryz.prog 58 #[str (X.takeWhile sixB), .int .u8 58] W fun e w' => e = .returned (.int .i64 ((X.takeWhile sixB).count 58 : Int)) ∧ W = w') := fun W => HCNT.out _ 58 W hl1
  have C2 : Hid (∀ W : World, Calls Tryz.prog 58 #[str (X.takeWhile quadB), .int .u8 46] W fun e w' => e = .returned (.int .i64 ((X.takeWhile quadB).count 46 : Int)) ∧ W = w') := fun W => HCNT.out _ 46 W hl2
  have N3 : Hid (∀ W : World, Calls Tryz.prog 60 #[str (X.takeWhile wordB)] W fun e w' => e = .returned (.tuple #[.int .u32 (((numV (X.takeWhile wordB)).getD 0 : Nat) : Int), .bool (numV (X.takeWhile wordB)).isSome]) ∧ W = w') := fun W => HNM.out _ W hl3
  have DG : Hid (∀ W : World, Calls Tryz.prog 59 #[.int .u8 (s[at'].toNat : Int)] W fun e w' => e = .returned (.bool (isDig s[at'])) ∧ W = w') := fun W => refdig_any s[at'] W
  have LT : Hid (∀ W : World, Calls Tryz.prog 61 #[.int .u8 (s[at'].toNat : Int)] W fun e w' => e = .returned (.bool (letB s[at'])) ∧ W = w') := fun W => reflet_any s[at'] W
  have RA := VAt.alloc w 42 (tkA 0 0 [] 0)
  have G0 := World.grownBy_alloc w (.cells (tkA 0 0 [] 0) 42) none
  rw [hX]
  have e0 : tokV X = if 2 ≤ (X.takeWhile sixB).count 58 then .ok (4, X.takeWhile sixB, 0)
    else if isDig s[at'] = true then
      (if 46 ∈ X.takeWhile quadB then .ok (3, X.takeWhile quadB, 0)
      else match numV (X.takeWhile wordB) with
        | none => .error 102
        | some n => .ok (1, X.takeWhile wordB, n))
    else if letB s[at'] = true then .ok (2, X.takeWhile wordB, 0)
    else if signV X = [] then .error 101 else .ok (5, signV X, 0) := by
    unfold tokV
    rw [hhead]
    rfl
  rw [e0]
  have hai : (at' : Int) < (s.size : Int) := by omega
  have hz0 : (0 : Int) ≤ (at' : Int) := by omega
  clear e0 HRUN HCNT HNM hX hhead
  obtain ⟨S6, hS6⟩ : ∃ S6, X.takeWhile sixB = S6 := ⟨_, rfl⟩
  obtain ⟨S4, hS4⟩ : ∃ S4, X.takeWhile quadB = S4 := ⟨_, rfl⟩
  obtain ⟨SW, hSW⟩ : ∃ SW, X.takeWhile wordB = SW := ⟨_, rfl⟩
  obtain ⟨SG, hSG⟩ : ∃ SG, signV X = SG := ⟨_, rfl⟩
  rw [hS6] at R1 C1 ⊢
  rw [hS4] at R2 C2 ⊢
  rw [hSW] at R3 N3 ⊢
  rw [hSG] at HSG ⊢
  clear hS6 hS4 hSW hSG hl1 hl2 hl3 hXl
  by_cases h6 : 2 ≤ S6.count 58
  · rw [if_pos h6]
    generalize S6.count 58 = n6 at *
    have h6' : (2 : Int) ≤ (n6 : Int) := by omega
    go_enter Tryz.func38, Tryz.ntmps38
    go_upto_region 1 with fail
    rw [show (w.alloc (.cells #[.int .i64 0, .int .i64 0, .string ⟨#[]⟩, .int .u32 0] 42)) = w.alloc (.cells (tkA 0 0 [] 0) 42) from rfl]
    generalize w.alloc (.cells (tkA 0 0 [] 0) 42) = w1 at *
    obtain ⟨R, hR⟩ : ∃ R, w.heap.size = R := ⟨_, rfl⟩
    have HR : Hid (w.heap.size ≤ R) := by show w.heap.size ≤ R; omega
    rw [hR] at RA ⊢
    clear hR
    go_wp2_with fail
    refine (R1.out _).mono ?_
    rintro e w2 ⟨rfl, rfl⟩
    go_wp2_with fail
    refine (C1.out _).mono ?_
    rintro e w2 ⟨rfl, rfl⟩
    go_wp2_with (refine wpList_store_row rfl 42 (.tmp 4) (.tmp 20) rfl R (tkA 4 at' S6 0) rfl rfl 42 _ RA size42 rfl (by simp [tkA, Value.oneCell']) ?_)
    refine bodyPost_ret (ret_row rfl _ _ R (tkA 4 at' S6 0) _ rfl (RA.setRow _) Tryz.underlying42 rfl size42) rfl ?_
    exact ⟨rfl, vgrown_setRow G0 _ _ (.inr HR.out)⟩
  rw [if_neg h6]
  generalize S6.count 58 = n6 at *
  have h6' : ¬ (2 : Int) ≤ (n6 : Int) := by omega
  cases hd : isDig s[at'] with
  | true =>
    rw [if_pos rfl]
    rw [hd] at DG
    by_cases h4 : 46 ∈ S4
    · rw [if_pos h4]
      have hc := List.count_pos_iff.2 h4
      generalize S4.count 46 = n4 at *
      have h4' : (0 : Int) < (n4 : Int) := by omega
      go_enter Tryz.func38, Tryz.ntmps38
      go_upto_region 1 with fail
      rw [show (w.alloc (.cells #[.int .i64 0, .int .i64 0, .string ⟨#[]⟩, .int .u32 0] 42)) = w.alloc (.cells (tkA 0 0 [] 0) 42) from rfl]
      generalize w.alloc (.cells (tkA 0 0 [] 0) 42) = w1 at *
      obtain ⟨R, hR⟩ : ∃ R, w.heap.size = R := ⟨_, rfl⟩
      have HR : Hid (w.heap.size ≤ R) := by show w.heap.size ≤ R; omega
      rw [hR] at RA ⊢
      clear hR
      go_wp2_with fail
      refine (R1.out _).mono ?_
      rintro e w2 ⟨rfl, rfl⟩
      go_wp2_with fail
      refine (C1.out _).mono ?_
      rintro e w2 ⟨rfl, rfl⟩
      go_wp2_with fail
      refine (DG.out _).mono ?_
      rintro e w2 ⟨rfl, rfl⟩
      go_wp2_with fail
      refine (R2.out _).mono ?_
      rintro e w2 ⟨rfl, rfl⟩
      go_wp2_with fail
      refine (C2.out _).mono ?_
      rintro e w2 ⟨rfl, rfl⟩
      go_wp2_with (refine wpList_store_row rfl 42 (.tmp 4) (.tmp 33) rfl R (tkA 3 at' S4 0) rfl rfl 42 _ RA size42 rfl (by simp [tkA, Value.oneCell']) ?_)
      refine bodyPost_ret (ret_row rfl _ _ R (tkA 3 at' S4 0) _ rfl (RA.setRow _) Tryz.underlying42 rfl size42) rfl ?_
      exact ⟨rfl, vgrown_setRow G0 _ _ (.inr HR.out)⟩
    rw [if_neg h4]
    have hc := List.count_eq_zero.2 h4
    rw [hc] at C2
    cases hn : numV SW with
    | none =>
      rw [hn] at N3
      go_enter Tryz.func38, Tryz.ntmps38
      go_upto_region 1 with fail
      rw [show (w.alloc (.cells #[.int .i64 0, .int .i64 0, .string ⟨#[]⟩, .int .u32 0] 42)) = w.alloc (.cells (tkA 0 0 [] 0) 42) from rfl]
      generalize w.alloc (.cells (tkA 0 0 [] 0) 42) = w1 at *
      obtain ⟨R, hR⟩ : ∃ R, w.heap.size = R := ⟨_, rfl⟩
      have HR : Hid (w.heap.size ≤ R) := by show w.heap.size ≤ R; omega
      rw [hR] at RA ⊢
      clear hR
      go_wp2_with fail
      refine (R1.out _).mono ?_
      rintro e w2 ⟨rfl, rfl⟩
      go_wp2_with fail
      refine (C1.out _).mono ?_
      rintro e w2 ⟨rfl, rfl⟩
      go_wp2_with fail
      refine (DG.out _).mono ?_
      rintro e w2 ⟨rfl, rfl⟩
      go_wp2_with fail
      refine (R2.out _).mono ?_
      rintro e w2 ⟨rfl, rfl⟩
      go_wp2_with fail
      refine (C2.out _).mono ?_
      rintro e w2 ⟨rfl, rfl⟩
      go_wp2_with fail
      refine (R3.out _).mono ?_
      rintro e w2 ⟨rfl, rfl⟩
      go_wp2_with fail
      refine (N3.out _).mono ?_
      rintro e w2 ⟨rfl, rfl⟩
      go_wp2_with (refine wpList_store_row rfl 42 (.tmp 4) (.tmp 44) rfl R (tkA 0 0 [] 0) rfl rfl 42 _ RA size42 rfl (by simp [tkA, Value.oneCell']) ?_)
      refine bodyPost_ret (ret_row rfl _ _ R (tkA 0 0 [] 0) _ rfl (RA.setRow _) Tryz.underlying42 rfl size42) rfl ?_
      exact ⟨rfl, vgrown_setRow G0 _ _ (.inr HR.out)⟩
    | some n =>
      rw [hn] at N3
      go_enter Tryz.func38, Tryz.ntmps38
      go_upto_region 1 with fail
      rw [show (w.alloc (.cells #[.int .i64 0, .int .i64 0, .string ⟨#[]⟩, .int .u32 0] 42)) = w.alloc (.cells (tkA 0 0 [] 0) 42) from rfl]
      generalize w.alloc (.cells (tkA 0 0 [] 0) 42) = w1 at *
      obtain ⟨R, hR⟩ : ∃ R, w.heap.size = R := ⟨_, rfl⟩
      have HR : Hid (w.heap.size ≤ R) := by show w.heap.size ≤ R; omega
      rw [hR] at RA ⊢
      clear hR
      go_wp2_with fail
      refine (R1.out _).mono ?_
      rintro e w2 ⟨rfl, rfl⟩
      go_wp2_with fail
      refine (C1.out _).mono ?_
      rintro e w2 ⟨rfl, rfl⟩
      go_wp2_with fail
      refine (DG.out _).mono ?_
      rintro e w2 ⟨rfl, rfl⟩
      go_wp2_with fail
      refine (R2.out _).mono ?_
      rintro e w2 ⟨rfl, rfl⟩
      go_wp2_with fail
      refine (C2.out _).mono ?_
      rintro e w2 ⟨rfl, rfl⟩
      go_wp2_with fail
      refine (R3.out _).mono ?_
      rintro e w2 ⟨rfl, rfl⟩
      go_wp2_with fail
      refine (N3.out _).mono ?_
      rintro e w2 ⟨rfl, rfl⟩
      go_wp2_with (refine wpList_store_row rfl 42 (.tmp 4) (.tmp 48) rfl R (tkA 1 at' SW n) rfl rfl 42 _ RA size42 rfl (by simp [tkA, Value.oneCell']) ?_)
      refine bodyPost_ret (ret_row rfl _ _ R (tkA 1 at' SW n) _ rfl (RA.setRow _) Tryz.underlying42 rfl size42) rfl ?_
      exact ⟨rfl, vgrown_setRow G0 _ _ (.inr HR.out)⟩
  | false =>
    rw [if_neg (by simp)]
    rw [hd] at DG
    cases hl : letB s[at'] with
    | true =>
      rw [if_pos rfl]
      rw [hl] at LT
      go_enter Tryz.func38, Tryz.ntmps38
      go_upto_region 1 with fail
      rw [show (w.alloc (.cells #[.int .i64 0, .int .i64 0, .string ⟨#[]⟩, .int .u32 0] 42)) = w.alloc (.cells (tkA 0 0 [] 0) 42) from rfl]
      generalize w.alloc (.cells (tkA 0 0 [] 0) 42) = w1 at *
      obtain ⟨R, hR⟩ : ∃ R, w.heap.size = R := ⟨_, rfl⟩
      have HR : Hid (w.heap.size ≤ R) := by show w.heap.size ≤ R; omega
      rw [hR] at RA ⊢
      clear hR
      go_wp2_with fail
      refine (R1.out _).mono ?_
      rintro e w2 ⟨rfl, rfl⟩
      go_wp2_with fail
      refine (C1.out _).mono ?_
      rintro e w2 ⟨rfl, rfl⟩
      go_wp2_with fail
      refine (DG.out _).mono ?_
      rintro e w2 ⟨rfl, rfl⟩
      go_wp2_with fail
      refine (LT.out _).mono ?_
      rintro e w2 ⟨rfl, rfl⟩
      go_wp2_with fail
      refine (R3.out _).mono ?_
      rintro e w2 ⟨rfl, rfl⟩
      go_wp2_with (refine wpList_store_row rfl 42 (.tmp 4) (.tmp 57) rfl R (tkA 2 at' SW 0) rfl rfl 42 _ RA size42 rfl (by simp [tkA, Value.oneCell']) ?_)
      refine bodyPost_ret (ret_row rfl _ _ R (tkA 2 at' SW 0) _ rfl (RA.setRow _) Tryz.underlying42 rfl size42) rfl ?_
      exact ⟨rfl, vgrown_setRow G0 _ _ (.inr HR.out)⟩
    | false =>
      rw [if_neg (by simp)]
      rw [hl] at LT
      by_cases hg : SG = []
      · rw [if_pos hg]
        subst hg
        go_enter Tryz.func38, Tryz.ntmps38
        go_upto_region 1 with fail
        rw [show (w.alloc (.cells #[.int .i64 0, .int .i64 0, .string ⟨#[]⟩, .int .u32 0] 42)) = w.alloc (.cells (tkA 0 0 [] 0) 42) from rfl]
        generalize w.alloc (.cells (tkA 0 0 [] 0) 42) = w1 at *
        obtain ⟨R, hR⟩ : ∃ R, w.heap.size = R := ⟨_, rfl⟩
        have HR : Hid (w.heap.size ≤ R) := by show w.heap.size ≤ R; omega
        rw [hR] at RA ⊢
        clear hR
        go_wp2_with fail
        refine (R1.out _).mono ?_
        rintro e w2 ⟨rfl, rfl⟩
        go_wp2_with fail
        refine (C1.out _).mono ?_
        rintro e w2 ⟨rfl, rfl⟩
        go_wp2_with fail
        refine (DG.out _).mono ?_
        rintro e w2 ⟨rfl, rfl⟩
        go_wp2_with fail
        refine (LT.out _).mono ?_
        rintro e w2 ⟨rfl, rfl⟩
        go_wp2_with fail
        refine (HSG.out _).mono ?_
        rintro e w2 ⟨rfl, rfl⟩
        go_wp2_with (refine wpList_store_row rfl 42 (.tmp 4) (.tmp 63) rfl R (tkA 0 0 [] 0) rfl rfl 42 _ RA size42 rfl (by simp [tkA, Value.oneCell']) ?_)
        refine bodyPost_ret (ret_row rfl _ _ R (tkA 0 0 [] 0) _ rfl (RA.setRow _) Tryz.underlying42 rfl size42) rfl ?_
        exact ⟨rfl, vgrown_setRow G0 _ _ (.inr HR.out)⟩
      · rw [if_neg hg]
        have hgf : SG.isEmpty = false := by simpa using hg
        go_enter Tryz.func38, Tryz.ntmps38
        go_upto_region 1 with fail
        rw [show (w.alloc (.cells #[.int .i64 0, .int .i64 0, .string ⟨#[]⟩, .int .u32 0] 42)) = w.alloc (.cells (tkA 0 0 [] 0) 42) from rfl]
        generalize w.alloc (.cells (tkA 0 0 [] 0) 42) = w1 at *
        obtain ⟨R, hR⟩ : ∃ R, w.heap.size = R := ⟨_, rfl⟩
        have HR : Hid (w.heap.size ≤ R) := by show w.heap.size ≤ R; omega
        rw [hR] at RA ⊢
        clear hR
        go_wp2_with fail
        refine (R1.out _).mono ?_
        rintro e w2 ⟨rfl, rfl⟩
        go_wp2_with fail
        refine (C1.out _).mono ?_
        rintro e w2 ⟨rfl, rfl⟩
        go_wp2_with fail
        refine (DG.out _).mono ?_
        rintro e w2 ⟨rfl, rfl⟩
        go_wp2_with fail
        refine (LT.out _).mono ?_
        rintro e w2 ⟨rfl, rfl⟩
        go_wp2_with fail
        refine (HSG.out _).mono ?_
        rintro e w2 ⟨rfl, rfl⟩
        go_wp2_with (refine wpList_store_row rfl 42 (.tmp 4) (.tmp 66) rfl R (tkA 5 at' SG 0) rfl rfl 42 _ RA size42 rfl (by simp [tkA, Value.oneCell']) ?_)
        refine bodyPost_ret (ret_row rfl _ _ R (tkA 5 at' SG 0) _ rfl (RA.setRow _) Tryz.underlying42 rfl size42) rfl ?_
        exact ⟨rfl, vgrown_setRow G0 _ _ (.inr HR.out)⟩

end Go.Proofs.YtbdmpjnlgdahmaaGreatDoor
