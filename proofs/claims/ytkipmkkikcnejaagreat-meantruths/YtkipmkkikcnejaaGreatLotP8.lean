/-
  A view in a block; the document's own Piece. What a call leaves that may write several blocks.
-/
import Derived.Test.YtkipmkkikcnejaaGreatFrameR
import Derived.Laws.Rows
import Derived.Laws.Tables
import Derived.Laws.ResultCell
import Derived.Deep.DeepCutAuto
import Derived.Test.YtkipmkkikcnejaaGreatLotP2
namespace Go.Proofs.YtkipmkkikcnejaaGreat
open Go.RowKit
set_option maxRecDepth 100000

def vwA (v : Vw) : Array Value := #[.int .u32 (v.proto : Int), .bool v.multi, .bool v.beg, .bool v.fin, .int .u32 (v.seq : Int), .int .i64 (v.pos : Int), .int .i64 (v.net : Int), .int .i64 (v.next : Int), .int .i64 (v.load : Int)]
/-- Cells lie in a block of their own. -/
def VAt (w : World) (g t : Nat) (cs : Array Value) : Prop := w.heap[g]? = some (.cells cs t (0, 0))
theorem VAt.cell {w : World} {g t : Nat} {cs : Array Value} (h : VAt w g t cs) (i : Nat) : w.cell? ⟨g, i, none⟩ = cs[i]? := cell_of_row w g i cs t (0, 0) h
theorem VAt.free {w : World} {g t : Nat} {cs : Array Value} (h : VAt w g t cs) (i : Nat) : w.frozen? ⟨g, i, none⟩ = false := by
  unfold VAt at h
  simp [World.frozen?, h]
theorem VAt.lt {w : World} {g t : Nat} {cs : Array Value} (h : VAt w g t cs) : g < w.heap.size := by
  unfold VAt at h
  by_cases hb : g < w.heap.size
  · exact hb
  · rw [Array.getElem?_eq_none (by omega)] at h; cases h
theorem VAt.grown {w w' : World} {g t : Nat} {cs : Array Value} {row : Option Nat} (h : VAt w g t cs) (G : w.grownBy w' row) (hr : row ≠ some g) : VAt w' g t cs := by
  have := G.block g h.lt (Ne.symm hr)
  unfold VAt at *
  rw [this, h]
theorem VAt.kept {w w' : World} {g t : Nat} {cs : Array Value} (h : VAt w g t cs) (G : w.grownBy w' none) : VAt w' g t cs := h.grown G (by simp)
theorem VAt.set {w : World} {g t : Nat} {cs : Array Value} (h : VAt w g t cs) (i : Nat) (v : Value) : VAt (w.setCell ⟨g, i, none⟩ v) g t (cs.setIfInBounds i v) := by
  unfold VAt at *
  simp only [World.setCell, Array.getElem?_modify, h, if_true, Option.map_some]
  rfl
theorem VAt.alloc (w : World) (t : Nat) (cs : Array Value) : VAt (w.alloc (.cells cs t)) w.heap.size t cs := heap_alloc_new w _
theorem VAt.setRow {w : World} {g t : Nat} {cs : Array Value} (h : VAt w g t cs) (ds : Array Value) : VAt (w.setRow g ds) g t ds := by
  unfold VAt at *
  exact setRow_heap w g _ _ t _ h
theorem vheap_setRow_ne (w : World) (g k : Nat) (cs : Array Value) (h : k ≠ g) : (w.setRow g cs).heap[k]? = w.heap[k]? := by
  simp [World.setRow, Array.getElem?_modify, Ne.symm h]
theorem vgrown_setRow {w W : World} {row : Option Nat} (G : w.grownBy W row) (g : Nat) (cs : Array Value) (hg : row = some g ∨ w.heap.size ≤ g) : w.grownBy (W.setRow g cs) row := by
  refine ⟨G.os, G.tape, G.output, by rw [setRow_size]; exact G.size, fun i hi hr => ?_⟩
  have : i ≠ g := by
    rintro rfl
    rcases hg with hg | hg
    · exact hr hg.symm
    · omega
  rw [vheap_setRow_ne _ _ _ _ this]
  exact G.block i hi hr
theorem VAt.other {w : World} {g t k : Nat} {cs : Array Value} (h : VAt w g t cs) (ds : Array Value) (hk : g ≠ k) : VAt (w.setRow k ds) g t cs := by
  unfold VAt at *
  rw [vheap_setRow_ne _ _ _ _ hk]
  exact h
theorem VAt.setOther {w : World} {g t k i : Nat} {cs : Array Value} (h : VAt w g t cs) (u : Value) (hk : g ≠ k) : VAt (w.setCell ⟨k, i, none⟩ u) g t cs := by
  unfold VAt at *
  simp only [World.setCell, Array.getElem?_modify, if_neg (Ne.symm hk)]
  exact h
/-- A result row that lies in a block, and a second result. -/
theorem ret_row {P : Program} {fn : Func} {p u : Tmp} {ty : TypeId} (h : fn.results = #[.cell p ty, .tmp u]) (tmps : Array Value) (w : World) (g : Nat) (cs : Array Value) (d : TypeDesc) (hp : tmps.getD p undef = .pointer (some ⟨g, 0, none⟩)) (A : VAt w g ty cs)
    (hu : P.underlying ty = some d) (hd : (match d with | .struct _ | .array _ _ => true | _ => false) = true) (hi : (P.info? ty).map (·.size) = some cs.size) : (results fn tmps).run P w = .ok (.tuple #[.agg cs, tmps.getD u undef]) w := by
  rw [results_cell_tmp h, hp]
  have := run_loadVar_row (P := P) w g ty ty cs (0, 0) _ A hu hd hi
  simp only [asAddr, Sem.run_pure, Result.andThen, this]

theorem size58 : (Tryz.prog.info? 58).map (·.size) = some 9 := by kernel_rfl

theorem size24 : (Tryz.prog.info? 24).map (·.size) = some 3 := by kernel_rfl

theorem vwA_all (v : Vw) : (vwA v).all (·.oneCell') = true := by simp [vwA, Value.oneCell']

/-- A boxed link, and a view behind it. -/
theorem two_blocks (w : World) (l : Lk) (t s : Nat) (cs : Array Value) :
    VAt ((w.alloc (.cells (lkA l) t)).alloc (.cells cs s)) w.heap.size t (lkA l) ∧ VAt ((w.alloc (.cells (lkA l) t)).alloc (.cells cs s)) (w.heap.size + 1) s cs ∧ w.grownBy ((w.alloc (.cells (lkA l) t)).alloc (.cells cs s)) none := by
  have A0 := VAt.alloc w t (lkA l)
  have A1 := VAt.alloc (w.alloc (.cells (lkA l) t)) s cs
  have K1 := World.grownBy_alloc (w.alloc (.cells (lkA l) t)) (.cells cs s) none
  rw [show (w.alloc (.cells (lkA l) t)).heap.size = w.heap.size + 1 by simp] at A1
  exact ⟨A0.kept K1, A1, grown_trans (World.grownBy_alloc w _ none) K1⟩

theorem plain_err {l : Lk} {b : List UInt8} {e : Int} (h : plainV l b = .error e) : (e != 0) = true := by
  unfold plainV at h
  split at h
  · cases h
  · split at h
    · cases h
    · split at h <;> cases h <;> rfl
theorem proto_err {l : Lk} {b : List UInt8} {p : Nat} {e : Int} (h : protoV l b p = .error e) : (e != 0) = true := by
  unfold protoV at h
  split at h
  · cases h; rfl
  · split at h
    · split at h <;> cases h; rfl
    · split at h
      · cases h; rfl
      · split at h <;> cases h; rfl
theorem head_err {l : Lk} {b : List UInt8} {p : Nat} {e : Int} (h : headV l b p = .error e) : (e != 0) = true := by
  unfold headV at h
  split at h
  · cases h; rfl
  · split at h <;> cases h; rfl

set_option maxRecDepth 100000 in
set_option maxHeartbeats 4000000 in
theorem refpiece_any (l : Lk) (a : Option Addr) (ca : Nat) (b : List UInt8) (w : World) (ha : Cells w a b) (hn : b.length ≤ 140737488355328) :
    Calls Tryz.prog 47 #[.agg (lkA l), .slice a b.length ca] w fun e w' => e = .returned (.tuple #[.agg (vwA (exV Vw.zero (pieceV l b))), .int .i64 (exE (pieceV l b))]) ∧ w.grownBy w' none := by
  obtain ⟨LA, RA, G0⟩ := two_blocks w l 24 58 (vwA Vw.zero)
  have HA : Hid (Cells _ a b) := ha.keptNone G0
  have HS : Hid (∀ v : Vw, (Tryz.prog.info? 58).map (·.size) = some (vwA v).size) := fun v => size58
  have HL : Hid ((Tryz.prog.info? 24).map (·.size) = some (lkA l).size) := size24
  clear ha
  have HP : Hid (pieceV l b = if 65535 < b.length then .error 71
    else (plainV l b).bind fun p => (protoV l b p).bind fun q =>
    if l.mp = 0 ∨ q.1 ≠ 61 then .ok ⟨q.1, false, false, false, 0, q.2, 0, 0, 0⟩
    else (headV l b q.2).bind fun h => .ok ⟨q.1, true, h.1, h.2.1, h.2.2.1, h.2.2.2, 0, 0, 0⟩) := rfl
  generalize pieceV l b = ans at *
  go_enter Tryz.func47, Tryz.ntmps47
  go_upto_region 1 with fail
  rw [show (w.alloc (.cells (lkA l) 24)).alloc (.cells #[.int .u32 0, .bool false, .bool false, .bool false, .int .u32 0, .int .i64 0, .int .i64 0, .int .i64 0, .int .i64 0] 58) = (w.alloc (.cells (lkA l) 24)).alloc (.cells (vwA Vw.zero) 58) from rfl]
  generalize (w.alloc (.cells (lkA l) 24)).alloc (.cells (vwA Vw.zero) 58) = wa at *
  obtain ⟨L, hL⟩ : ∃ L, w.heap.size = L := ⟨_, rfl⟩
  obtain ⟨R, hR, hR2⟩ : ∃ R, w.heap.size + 1 = R ∧ w.heap.size ≤ R := ⟨_, rfl, by omega⟩
  rw [hR] at RA ⊢
  rw [hL] at LA ⊢
  clear hR hL
  have HR2 : Hid (w.heap.size ≤ R) := hR2
  clear hR2
  by_cases hlen : 65535 < b.length
  · have hlen' : (65535 : Int) < (b.length : Int) := by omega
    go_wp2_with (refine wpList_store_row rfl 58 (.tmp 4) (.tmp 15) rfl R (vwA Vw.zero) rfl rfl 58 _ RA (HS.out _) rfl (vwA_all _) ?_)
    refine bodyPost_ret (ret_row rfl _ _ R (vwA Vw.zero) _ rfl (RA.setRow _) Tryz.underlying58 rfl (HS.out _)) rfl ?_
    exact ⟨by rw [HP.out, if_pos hlen]; rfl, vgrown_setRow G0 _ _ (.inr HR2.out)⟩
  · have hlen' : ¬ (65535 : Int) < (b.length : Int) := by omega
    have HP1 := HP.out
    rw [if_neg hlen] at HP1
    have CP := refplain_any l a ca b wa HA.out
    clear HP
    cases hp : plainV l b with
    | error e =>
      rw [hp] at CP HP1
      have hz := plain_err hp
      have HP : Hid (ans = .error e) := HP1
      clear HP1 hp
      go_wp2_with (refine wpList_load_row rfl 24 (.tmp 2) rfl L rfl 24 (lkA l) (0, 0) _ LA Tryz.underlying24 rfl HL.out ?_)
      refine CP.mono ?_
      rintro e' w1 ⟨rfl, K⟩
      have RA1 := RA.kept K
      have G1 := grown_trans G0 K
      simp only [exV, exE]
      clear CP RA LA HA G0 K
      go_wp2_with (refine wpList_store_row rfl 58 (.tmp 4) (.tmp 24) rfl R (vwA Vw.zero) rfl rfl 58 _ RA1 (HS.out _) rfl (vwA_all _) ?_)
      refine bodyPost_ret (ret_row rfl _ _ R (vwA Vw.zero) _ rfl (RA1.setRow _) Tryz.underlying58 rfl (HS.out _)) rfl ?_
      exact ⟨by rw [HP.out]; rfl, vgrown_setRow G1 _ _ (.inr HR2.out)⟩
    | ok p =>
      rw [hp] at CP HP1
      have hp2 := plain_le hp
      have HP2 : Hid (ans = (protoV l b p).bind fun q =>
        if l.mp = 0 ∨ q.1 ≠ 61 then .ok ⟨q.1, false, false, false, 0, q.2, 0, 0, 0⟩
        else (headV l b q.2).bind fun h => .ok ⟨q.1, true, h.1, h.2.1, h.2.2.1, h.2.2.2, 0, 0, 0⟩) := HP1
      clear HP1 hp
      go_upto_region 4 with (refine wpList_load_row rfl 24 (.tmp 2) rfl L rfl 24 (lkA l) (0, 0) _ LA Tryz.underlying24 rfl HL.out ?_)
      refine CP.mono ?_
      rintro e' w1 ⟨rfl, K⟩
      have RA1 := RA.kept K
      have LA1 := LA.kept K
      have HA1 : Hid (Cells w1 a b) := HA.out.keptNone K
      have G1 := grown_trans G0 K
      simp only [exV, exE]
      clear CP RA LA HA G0 K
      go_upto_region 4 with fail
      have CQ := refproto_any l a ca b p w1 HA1.out (by omega)
      cases hq : protoV l b p with
      | error e =>
        rw [hq] at CQ HP2
        have hz := proto_err hq
        have HP : Hid (ans = .error e) := HP2.out
        clear HP2 hq
        go_wp2_with (refine wpList_load_row rfl 24 (.tmp 2) rfl L rfl 24 (lkA l) (0, 0) _ LA1 Tryz.underlying24 rfl HL.out ?_)
        refine CQ.mono ?_
        rintro e' w2 ⟨rfl, K⟩
        have RA2 := RA1.kept K
        have G2 := grown_trans G1 K
        simp only [exV, exE]
        clear CQ RA1 LA1 HA1 G1 K
        go_wp2_with (refine wpList_store_row rfl 58 (.tmp 4) (.tmp 36) rfl R (vwA Vw.zero) rfl rfl 58 _ RA2 (HS.out _) rfl (vwA_all _) ?_)
        refine bodyPost_ret (ret_row rfl _ _ R (vwA Vw.zero) _ rfl (RA2.setRow _) Tryz.underlying58 rfl (HS.out _)) rfl ?_
        exact ⟨by rw [HP.out]; rfl, vgrown_setRow G2 _ _ (.inr HR2.out)⟩
      | ok q =>
        obtain ⟨pr, at1⟩ := q
        have hq2 : at1 ≤ b.length := (proto_grows (c := []) hq).2.2
        rw [hq] at CQ HP2
        have HP3 : Hid (ans = if l.mp = 0 ∨ pr ≠ 61 then .ok ⟨pr, false, false, false, 0, at1, 0, 0, 0⟩
          else (headV l b at1).bind fun h => .ok ⟨pr, true, h.1, h.2.1, h.2.2.1, h.2.2.2, 0, 0, 0⟩) := HP2.out
        clear HP2 hq
        go_upto_region 7 with (refine wpList_load_row rfl 24 (.tmp 2) rfl L rfl 24 (lkA l) (0, 0) _ LA1 Tryz.underlying24 rfl HL.out ?_)
        refine CQ.mono ?_
        rintro e' w2 ⟨rfl, K⟩
        have RA2 := RA1.kept K
        have LA2 := LA1.kept K
        have HA2 : Hid (Cells w2 a b) := HA1.out.keptNone K
        have G2 := grown_trans G1 K
        simp only [exV, exE]
        clear CQ RA1 LA1 HA1 G1 K
        go_upto_region 9 with fail
        have c2 : w2.cell? ⟨L, 2, none⟩ = some (.int .i64 l.mp) := LA2.cell 2
        by_cases hm : l.mp = 0 ∨ pr ≠ 61
        · have HP : Hid (ans = .ok ⟨pr, false, false, false, 0, at1, 0, 0, 0⟩) := by
            show ans = _
            rw [HP3.out, if_pos hm]
          have hd : (l.mp == 0) = true ∨ (l.mp == 0) = false ∧ ((pr : Int) != 61) = true := by
            by_cases h0 : l.mp = 0
            · exact .inl (by rw [h0]; rfl)
            · exact .inr ⟨by rw [beq_eq_false_iff_ne]; exact h0, by rw [bne_iff_ne]; have := hm.resolve_left h0; omega⟩
          clear HP3 hm
          rcases hd with hd | ⟨hd, hd2⟩
          all_goals
            go_wp2_with (refine wpList_store_row rfl 58 (.tmp 4) (.tmp 47) rfl R (vwA ⟨pr, false, false, false, 0, at1, 0, 0, 0⟩) rfl rfl 58 _ RA2 (HS.out _) rfl (vwA_all _) ?_)
            refine bodyPost_ret (ret_row rfl _ _ R (vwA ⟨pr, false, false, false, 0, at1, 0, 0, 0⟩) _ rfl (RA2.setRow _) Tryz.underlying58 rfl (HS.out _)) rfl ?_
            exact ⟨by rw [HP.out]; rfl, vgrown_setRow G2 _ _ (.inr HR2.out)⟩
        · have h0 : (l.mp == 0) = false := by rw [beq_eq_false_iff_ne]; exact fun e => hm (.inl e)
          have h61 : ((pr : Int) != 61) = false := by rw [bne_eq_false_iff_eq]; have : pr = 61 := Classical.byContradiction fun e => hm (.inr e); omega
          have HP4 : Hid (ans = (headV l b at1).bind fun h => .ok ⟨pr, true, h.1, h.2.1, h.2.2.1, h.2.2.2, 0, 0, 0⟩) := by
            show ans = _
            rw [HP3.out, if_neg hm]
          clear HP3 hm
          have CH := refhead_any l a ca b at1 w2 HA2.out hn (by omega)
          cases hh : headV l b at1 with
          | error e =>
            rw [hh] at CH HP4
            have hz := head_err hh
            have HP : Hid (ans = .error e) := HP4.out
            clear HP4 hh
            go_wp2_with (refine wpList_load_row rfl 24 (.tmp 2) rfl L rfl 24 (lkA l) (0, 0) _ LA2 Tryz.underlying24 rfl HL.out ?_)
            refine CH.mono ?_
            rintro e' w3 ⟨rfl, K⟩
            have RA3 := RA2.kept K
            have G3 := grown_trans G2 K
            simp only [exV, exE]
            clear CH RA2 LA2 HA2 G2 K
            go_wp2_with (refine wpList_store_row rfl 58 (.tmp 4) (.tmp 60) rfl R (vwA Vw.zero) rfl rfl 58 _ RA3 (HS.out _) rfl (vwA_all _) ?_)
            refine bodyPost_ret (ret_row rfl _ _ R (vwA Vw.zero) _ rfl (RA3.setRow _) Tryz.underlying58 rfl (HS.out _)) rfl ?_
            exact ⟨by rw [HP.out]; rfl, vgrown_setRow G3 _ _ (.inr HR2.out)⟩
          | ok h =>
            obtain ⟨be, en, sq, at2⟩ := h
            rw [hh] at CH HP4
            have HP : Hid (ans = .ok ⟨pr, true, be, en, sq, at2, 0, 0, 0⟩) := HP4.out
            clear HP4 hh
            go_wp2_with (refine wpList_load_row rfl 24 (.tmp 2) rfl L rfl 24 (lkA l) (0, 0) _ LA2 Tryz.underlying24 rfl HL.out ?_)
            refine CH.mono ?_
            rintro e' w3 ⟨rfl, K⟩
            have RA3 := RA2.kept K
            have G3 := grown_trans G2 K
            simp only [exV, exE]
            clear CH RA2 LA2 HA2 G2 K
            go_wp2_with (refine wpList_store_row rfl 58 (.tmp 4) (.tmp 67) rfl R (vwA ⟨pr, true, be, en, sq, at2, 0, 0, 0⟩) rfl rfl 58 _ RA3 (HS.out _) rfl (vwA_all _) ?_)
            refine bodyPost_ret (ret_row rfl _ _ R (vwA ⟨pr, true, be, en, sq, at2, 0, 0, 0⟩) _ rfl (RA3.setRow _) Tryz.underlying58 rfl (HS.out _)) rfl ?_
            exact ⟨by rw [HP.out]; rfl, vgrown_setRow G3 _ _ (.inr HR2.out)⟩

end Go.Proofs.YtkipmkkikcnejaaGreat

namespace Go.Proofs.YtkipmkkikcnejaaGreat
open Go.RowKit
set_option maxRecDepth 100000

/-- Nothing is written but new memory, and the blocks of S. -/
structure GB (w w' : World) (S : Nat → Prop) : Prop where
  os : w'.os = w.os
  tape : w'.tape = w.tape
  output : w'.output = w.output
  size : w.heap.size ≤ w'.heap.size
  block : ∀ i, i < w.heap.size → ¬ S i → w'.heap[i]? = w.heap[i]?

theorem GB.of {w w' : World} {row : Option Nat} {S : Nat → Prop} (h : w.grownBy w' row) (hs : ∀ x, row = some x → S x) : GB w w' S :=
  ⟨h.os, h.tape, h.output, h.size, fun i hi hn => h.block i hi (fun e => hn (hs i e.symm))⟩
theorem GB.non {w w' : World} {S : Nat → Prop} (h : w.grownBy w' none) : GB w w' S := GB.of h (fun x hx => by cases hx)
theorem GB.refl (w : World) (S : Nat → Prop) : GB w w S := ⟨rfl, rfl, rfl, Nat.le_refl _, fun _ _ _ => rfl⟩
theorem GB.trans {w w1 w2 : World} {S S' : Nat → Prop} (h : GB w w1 S) (k : GB w1 w2 S') (hs : ∀ x, x < w.heap.size → S' x → S x) : GB w w2 S :=
  ⟨k.os.trans h.os, k.tape.trans h.tape, k.output.trans h.output, Nat.le_trans h.size k.size, fun i hi hn => (k.block i (Nat.lt_of_lt_of_le hi h.size) (fun e => hn (hs i hi e))).trans (h.block i hi hn)⟩
theorem GB.mono {w w' : World} {S S' : Nat → Prop} (h : GB w w' S) (hs : ∀ x, S x → S' x) : GB w w' S' := ⟨h.os, h.tape, h.output, h.size, fun i hi hn => h.block i hi (fun e => hn (hs i e))⟩
/-- Where S lies in new memory alone. -/
theorem GB.grown {w w' : World} {S : Nat → Prop} (h : GB w w' S) (hs : ∀ x, x < w.heap.size → ¬ S x) : w.grownBy w' none := ⟨h.os, h.tape, h.output, h.size, fun i hi _ => h.block i hi (hs i hi)⟩
theorem GB.one {w w' : World} {S : Nat → Prop} {g : Nat} (h : GB w w' S) (hs : ∀ x, x < w.heap.size → S x → x = g) : w.grownBy w' (some g) := ⟨h.os, h.tape, h.output, h.size, fun i hi hn => h.block i hi (fun e => hn (congrArg some (hs i hi e)))⟩

theorem GB.vat {w w' : World} {S : Nat → Prop} {g t : Nat} {cs : Array Value} (h : GB w w' S) (A : VAt w g t cs) (hg : ¬ S g) : VAt w' g t cs := by
  have := h.block g A.lt hg
  unfold VAt at *
  rw [this, A]
theorem GB.owns {w w' : World} {S : Nat → Prop} {base e size n : Nat} {v : Value} {vs : List Value} (h : GB w w' S) (O : w.ownsRow base e size v n vs) (hv : ∀ x, v.ownBlock = some x → ¬ S x) : w'.ownsRow base e size v n vs := by
  refine ⟨O.1, ?_⟩
  rcases O.2 with h0 | ⟨g, cap, cur, hv', hb, hg, r⟩
  · exact .inl h0
  · right
    refine ⟨g, cap, cur, hv', hb, ?_, r⟩
    have hlt : g < w.heap.size := by
      by_cases hh : g < w.heap.size
      · exact hh
      · rw [Array.getElem?_eq_none (by omega)] at hg; cases hg
    rw [h.block g hlt (hv g (by rw [hv']; rfl)), hg]
theorem GB.cell {w w' : World} {S : Nat → Prop} {ad : Addr} {v : Value} (h : GB w w' S) (hc : w.cell? ad = some v) (ha : ¬ S ad.block) (hlt : ad.block < w.heap.size) : w'.cell? ad = some v := by
  have := h.block ad.block hlt ha
  unfold World.cell? at *
  rw [this]
  exact hc
theorem GB.cells {w w' : World} {S : Nat → Prop} {ao : Option Addr} {xs : List UInt8} (h : GB w w' S) (hc : Cells w ao xs) (ha : ∀ ad, ao = some ad → xs ≠ [] → ¬ S ad.block) : Cells w' ao xs := by
  have hu := hc.under
  refine hc.same fun b off i hb hi => ?_
  have hne : xs ≠ [] := by
    intro e
    rw [e] at hi
    simp at hi
  have h1 := ha _ hb hne
  have h2 := hu _ hb hne
  have := h.block b h2 h1
  unfold World.cell?
  simp only [this]

end Go.Proofs.YtkipmkkikcnejaaGreat
