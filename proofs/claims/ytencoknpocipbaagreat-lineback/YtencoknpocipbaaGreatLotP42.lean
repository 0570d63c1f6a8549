/-
  LendBlocks: blocks in a place with room behind them, the codes of each too. CopyBlocks: blocks in memory of their own, the codes of each too. What is read of an argument that is a list of bytes; how much the second form counts. What is read of an argument that is a list of instructions.
-/
import Derived.Test.YtencoknpocipbaaGreatLotP29
import Derived.Test.YtencoknpocipbaaGreatLotP2
import Derived.Test.YtencoknpocipbaaGreatRows
import Derived.ProofKit
import Derived.OpenShut
import Derived.ShutString
import Derived.ChangeOld
import Derived.SizedLaws
import Derived.JoinedCond
import Derived.Test.YtencoknpocipbaaGreatLotP3
import Derived.Deep.Slices
namespace Go.Proofs.YtencoknpocipbaaGreat
open Go.RowKit
set_option maxRecDepth 100000

def m77 : Bv := ⟨⟨[], 77, in0, 0, 0⟩, none, 0⟩
/-- Blocks apart: no two Codes lie in one block of memory. -/
abbrev Apart (ys : List Bv) : Prop := ys.Pairwise (fun x y => ∀ z, (x.a.map (·.block)) = some z → (y.a.map (·.block)) ≠ some z)
/-- Blocks that were lent, while they are laid. -/
def BLt (w : World) (base : Nat) (v : Value) (ys : List Bv) : Prop :=
  w.ownsRow base 56 8 v ys.length (flatB ys) ∧ (∀ x ∈ ys, ILent w base (.slice x.a x.b.code.length x.ca) x.b.code) ∧ Apart ys
/-- Blocks that were lent: two marked ones behind them. -/
def BLent (w : World) (base : Nat) (v : Value) (ys : List Bv) : Prop :=
  ∃ g cap, v = .slice (some ⟨g, 0, none⟩) ys.length cap ∧ ys.length + 2 ≤ cap ∧ cap ≤ maxLen ∧ base ≤ g ∧ w.ownsRow base 56 8 (.slice (some ⟨g, 0, none⟩) (ys.length + 2) cap) (ys.length + 2) (flatB (ys ++ [m77, m77])) ∧ (∀ x ∈ ys, ILent w base (.slice x.a x.b.code.length x.ca) x.b.code) ∧ Apart ys

theorem ILent.keptNone {w w' : World} {base : Nat} {v : Value} {xs : List In} (h : ILent w base v xs) (G : w.grownBy w' none) : ILent w' base v xs := by
  obtain ⟨g, cap, h1, h2, h3, h4, h5, h6⟩ := h
  exact ⟨g, cap, h1, h2, h3, h4, Nat.lt_of_lt_of_le h5 G.size, owns_keptNone h6 G⟩
theorem ILent.mono {w : World} {base base' : Nat} {v : Value} {xs : List In} (h : ILent w base v xs) (hb : base' ≤ base) : ILent w base' v xs := by
  obtain ⟨g, cap, h1, h2, h3, h4, h5, h6⟩ := h
  exact ⟨g, cap, h1, h2, h3, by omega, h5, owns_mono h6 hb⟩
theorem ILent.kinds {w w' : World} {base base' n' : Nat} {v v' : Value} {vs : List Value} {xs : List In} (h : ILent w base v xs) (O : w.ownsRow base' 56 8 v' n' vs) (K : w.grownBy w' v'.ownBlock) : ILent w' base v xs := by
  obtain ⟨g, cap, h1, h2, h3, h4, h5, h6⟩ := h
  exact ⟨g, cap, h1, h2, h3, h4, Nat.lt_of_lt_of_le h5 K.size, kinds15 h6 O (by decide) K⟩
theorem ILent.cv {w : World} {base : Nat} {a : Option Addr} {n ca : Nat} {xs : List In} (h : ILent w base (.slice a n ca) xs) : n = xs.length ∧ CV w a (flat xs) ∧ xs.length ≤ ca ∧ (a = none → ca = 0) ∧ ∃ g, a = some ⟨g, 0, none⟩ ∧ base ≤ g ∧ g < w.heap.size ∧ w.ownsRow base 54 4 (.slice (some ⟨g, 0, none⟩) (xs.length + 3) ca) (xs.length + 3) (flat (xs ++ [mark, mark, mark])) := by
  obtain ⟨g, cap, h1, h2, h3, h4, h5, h6⟩ := h
  simp only [Value.slice.injEq] at h1
  obtain ⟨rfl, rfl, rfl⟩ := h1
  exact ⟨rfl, (icv_front h6).1, by omega, (fun e => by cases e), g, rfl, h4, h5, h6⟩

theorem BLt.keptNone {w w' : World} {base : Nat} {v : Value} {ys : List Bv} (h : BLt w base v ys) (G : w.grownBy w' none) : BLt w' base v ys := ⟨owns_keptNone h.1 G, fun x hx => (h.2.1 x hx).keptNone G, h.2.2⟩
theorem ILent.vat {w w' : World} {base D : Nat} {v : Value} {xs : List In} {cs : Array Value} (h : ILent w base v xs) (K : w.grownBy w' (some D)) (A : GVt w D 56 cs) : ILent w' base v xs := by
  obtain ⟨g, cap, h1, h2, h3, h4, h5, h6⟩ := h
  refine ⟨g, cap, h1, h2, h3, h4, Nat.lt_of_lt_of_le h5 K.size, h6.kept K (.inr (fun e => ?_))⟩
  simp only [Value.ownBlock, Option.some.injEq] at e
  subst e
  rcases h6.2 with ⟨hv, -⟩ | ⟨g2, cap2, cur, hv, -, hg, -⟩
  · cases hv
  · simp only [Value.slice.injEq, Option.some.injEq, Addr.mk.injEq, and_true] at hv
    obtain ⟨rfl, -, -⟩ := hv
    unfold GVt at A
    rw [hg] at A
    simp only [Option.some.injEq, Obj.cells.injEq] at A
    exact absurd A.2.1 (by decide)
theorem BLt.vat {w w' : World} {base D : Nat} {v : Value} {ys : List Bv} {cs : Array Value} (h : BLt w base v ys) (K : w.grownBy w' (some D)) (A : GVt w D 56 cs) (hne : ∀ z, v.ownBlock = some z → z ≠ D) : BLt w' base v ys := by
  refine ⟨h.1.kept K ?_, fun x hx => (h.2.1 x hx).vat K A, h.2.2⟩
  cases hv : v.ownBlock with
  | none => exact .inl rfl
  | some z => exact .inr (by simpa using hne z hv)
theorem BLt.push {w w' : World} {base : Nat} {v v' : Value} {xs : List Bv} {x : Bv} (h : BLt w base v xs) (hx : ILent w base (.slice x.a x.b.code.length x.ca) x.b.code) (hap : ∀ y ∈ xs, ∀ z, (y.a.map (·.block)) = some z → (x.a.map (·.block)) ≠ some z)
    (O : w'.ownsRow base 56 8 v' (xs.length + 1) (flatB xs ++ flatB [x])) (K : w.grownBy w' v.ownBlock) : BLt w' base v' (xs ++ [x]) := by
  refine ⟨by rw [List.length_append, flatB_append]; exact O, fun y hy => ?_, ?_⟩
  · rcases List.mem_append.1 hy with hy | hy
    · exact (h.2.1 y hy).kinds h.1 K
    · simp only [List.mem_singleton] at hy
      subst hy
      exact hx.kinds h.1 K
  · refine List.pairwise_append.2 ⟨h.2.2, List.pairwise_singleton _ _, fun y hy z hz => ?_⟩
    simp only [List.mem_singleton] at hz
    subst hz
    exact hap y hy

theorem marks77 : flatB [m77, m77] = [.slice none 0 0, .int .i64 77, .int .u16 0, .int .u8 0, .int .u8 0, .int .u32 0, .int .i64 0, .int .i64 0, .slice none 0 0, .int .i64 77, .int .u16 0, .int .u8 0, .int .u8 0, .int .u32 0, .int .i64 0, .int .i64 0] := rfl

/-- What LendBlocks hands out. -/
def LendP (w : World) (gs : List Bk) (e : Ending) (w' : World) : Prop := ∃ v ys, e = .returned v ∧ BLent w' w.heap.size v ys ∧ gOf ys = gs ∧ w.grownBy w' none

end Go.Proofs.YtencoknpocipbaaGreat

namespace Go.Proofs.YtencoknpocipbaaGreat
open Go.RowKit
set_option maxRecDepth 100000

theorem own_map (a : Option Addr) (n c : Nat) : (Value.slice a n c).ownBlock = a.map (·.block) := by cases a <;> rfl
theorem owns_vat {w w' : World} {base D n : Nat} {v : Value} {vs : List Value} {cs : Array Value} (h : w.ownsRow base 54 4 v n vs) (K : w.grownBy w' (some D)) (A : GVt w D 56 cs) : w'.ownsRow base 54 4 v n vs := by
  refine h.kept K ?_
  rcases h.2 with ⟨rfl, -⟩ | ⟨g2, cap2, cur, rfl, -, hg, -⟩
  · exact .inl rfl
  · refine .inr (fun e => ?_)
    simp only [Value.ownBlock, Option.some.injEq] at e
    subst e
    unfold GVt at A
    rw [hg] at A
    simp only [Option.some.injEq, Obj.cells.injEq] at A
    exact absurd A.2.1 (by decide)
theorem BLv.vat {w w' : World} {base D : Nat} {v : Value} {ys : List Bv} {cs : Array Value} (h : BLv w base v ys) (K : w.grownBy w' (some D)) (A : GVt w D 56 cs) (hne : ∀ z, v.ownBlock = some z → z ≠ D) : BLv w' base v ys := by
  refine ⟨h.1.kept K ?_, fun x hx => owns_vat (h.2.1 x hx) K A, h.2.2⟩
  cases hv : v.ownBlock with
  | none => exact .inl rfl
  | some z => exact .inr (by simpa using hne z hv)

set_option maxRecDepth 100000 in
set_option maxHeartbeats 4000000 in
theorem bcopy_any (a : Option Addr) (ca : Nat) (xs : List Bv) (w : World) (ha : GC w a xs) (hn : xs.length * 56 ≤ 140737488355328) (hlen : ∀ x ∈ xs, x.b.code.length * 8 ≤ 140737488351232) :
    Calls Tryz.prog 5 #[.slice a xs.length ca] w (BlksP w (gOf xs)) := by
  obtain ⟨i0, hi, hz0, hz1, hz2⟩ := info_parts info56
  have H : Hid (GC w a xs) := ha
  clear ha
  go_enter Tryz.func5, Tryz.ntmps5
  go_wp2
  go_loopw [3, 4] (fun o i wr => ∃ (k : Nat) (ys : List Bv), k ≤ xs.length ∧ i = .int .i64 k ∧ Hid (gOf ys = (gOf xs).take k) ∧ ys.length = k ∧ BLv wr w.heap.size o ys ∧ w.grownBy wr none) (fun _ i _ => xs.length - (intOf i).toNat)
  case atStart => exact ⟨0, [], Nat.zero_le _, rfl, (show gOf [] = _ by simp [gOf]), rfl, ⟨World.ownsRow_nil _ _ _ _, fun x hx => (by cases hx), List.Pairwise.nil⟩, World.grownBy.refl _ _⟩
  case round =>
    obtain ⟨k, ys, hk, rfl, HV, hyl, B, G⟩ := hrel
    have HYL : Hid (ys.length = k) := hyl
    clear hyl
    by_cases hlt : k < xs.length
    · have hl : (k : Int) < (xs.length : Int) := by omega
      have GG := H.out.keptNone G
      obtain ⟨b1, o1, rfl, d1⟩ := GG.1.blocks hlt
      have d1 := d1 k hlt
      have hx := GG.2 _ (List.getElem_mem hlt)
      have hmm := hlen _ (List.getElem_mem hlt)
      have HV2 : Hid ((gOf xs).take (k + 1) = gOf ys ++ [xs[k].b]) := by
        show _ = _
        rw [HV.out, ← List.take_append_getElem (by rw [gOf_len]; exact hlt)]
        simp [gOf]
      generalize xs[k] = x at *
      obtain ⟨⟨code, en, ⟨ic, it, jf, ik⟩, yes, no⟩, xa, xc⟩ := x
      simp only at hmm
      have c0 := d1 0 _ rfl
      have c1 := d1 1 _ rfl
      have c2 := d1 2 _ rfl
      have c3 := d1 3 _ rfl
      have c4 := d1 4 _ rfl
      have c5 := d1 5 _ rfl
      have c6 := d1 6 _ rfl
      have c7 := d1 7 _ rfl
      rw [Nat.add_zero] at c0
      simp only at c0 c1 c2 c3 c4 c5 c6 c7
      have VX := GVt.alloc wr 56 #[.slice xa code.length xc, .int .i64 en, .int .u16 (ic.toNat : Int), .int .u8 (it.toNat : Int), .int .u8 (jf.toNat : Int), .int .u32 (ik.toNat : Int), .int .i64 yes, .int .i64 no]
      have KX : wr.grownBy (wr.alloc (.cells #[.slice xa code.length xc, .int .i64 en, .int .u16 (ic.toNat : Int), .int .u8 (it.toNat : Int), .int .u8 (jf.toNat : Int), .int .u32 (ik.toNat : Int), .int .i64 yes, .int .i64 no] 56)) none := World.grownBy_alloc _ _ _
      have CL := fun W (G' : wr.grownBy W none) => icopy_any xa xc code W (hx.1.keptNone G') hx.2.2 (by omega)
      have B1 := B.keptNone KX
      have G1 := grown_trans G KX
      have e0 := KX.cell c0 (by simp)
      have hwr : w.heap.size ≤ wr.heap.size := G.size
      have hoD : ∀ z, u3.ownBlock = some z → z ≠ wr.heap.size := fun z hz => by have := (B.1.lt z hz).2; omega
      clear d1 hx GG HV B
      go_upto_region 6 with fail
      generalize wr.alloc (.cells #[.slice xa code.length xc, .int .i64 en, .int .u16 (ic.toNat : Int), .int .u8 (it.toNat : Int), .int .u8 (jf.toNat : Int), .int .u32 (ik.toNat : Int), .int .i64 yes, .int .i64 no] 56) = w1 at *
      generalize wr.heap.size = D at *
      clear c0 c1 c2 c3 c4 c5 c6 c7 G
      have CL1 := CL w1 KX
      clear CL KX
      go_wp2_with fail
      refine CL1.mono ?_
      rintro e w2 ⟨v, rfl, L2, K2⟩
      obtain ⟨a2, cap2, hv2, -⟩ := cv_of_row L2
      subst hv2
      have HAP : Hid (∀ y ∈ ys, ∀ z, (y.a.map (·.block)) = some z → (a2.map (·.block)) ≠ some z) := fun y hy z hz e => by
        have h1 := ((B1.2.1 y hy).lt z (by rw [own_map]; exact hz)).2
        have h2 := (L2.lt z (by rw [own_map]; exact e)).1
        omega
      have L2 := owns_mono L2 G1.size
      have B2 := B1.keptNone K2
      have G2 := grown_trans G1 K2
      have V2 := VX.kept K2
      have q0 : w2.cell? ⟨D, 0, none⟩ = some (.slice xa code.length xc) := V2.cell 0
      have f0 := V2.free 0
      have K3 := grown_set1 w2 ⟨D, 0, none⟩ (.slice (a2) code.length cap2)
      have V3 : GVt (w2.setCell ⟨D, 0, none⟩ (.slice (a2) code.length cap2)) D 56 #[.slice (a2) code.length cap2, .int .i64 en, .int .u16 (ic.toNat : Int), .int .u8 (it.toNat : Int), .int .u8 (jf.toNat : Int), .int .u32 (ik.toNat : Int), .int .i64 yes, .int .i64 no] := V2.set 0 _
      have G3 := grown_trans_new G2 K3 (fun z e => by cases e; exact hwr)
      clear CL1 K2 B1 G1 VX
      have B3 := B2.vat K3 V2 hoD
      have L3 := owns_vat L2 K3 V2
      clear V2 K3 B2 L2 G2
      have HSZ : Hid ((Tryz.prog.info? 56).map (·.size) = some 8) := sizeBk
      go_upto_region 7 with fail
      generalize w2.setCell ⟨D, 0, none⟩ (.slice (a2) code.length cap2) = w3 at *
      clear q0 f0 e0
      obtain ⟨bk, hbk⟩ : ∃ bk : Bv, bk = ⟨⟨code, en, ⟨ic, it, jf, ik⟩, yes, no⟩, a2, cap2⟩ := ⟨_, rfl⟩
      have KA : w3.grownBy (w3.alloc (.cells #[.slice (a2) code.length cap2, .int .i64 en, .int .u16 (ic.toNat : Int), .int .u8 (it.toNat : Int), .int .u8 (jf.toNat : Int), .int .u32 (ik.toNat : Int), .int .i64 yes, .int .i64 no] 56)) none := World.grownBy_alloc _ _ _
      have CA : CV (w3.alloc (.cells #[.slice (a2) code.length cap2, .int .i64 en, .int .u16 (ic.toNat : Int), .int .u8 (it.toNat : Int), .int .u8 (jf.toNat : Int), .int .u32 (ik.toNat : Int), .int .i64 yes, .int .i64 no] 56)) (some ⟨w3.heap.size, 0, none⟩) (flatB [bk]) := by rw [hbk]; exact lit_block w3 ⟨⟨code, en, ⟨ic, it, jf, ik⟩, yes, no⟩, a2, cap2⟩
      have B4 := B3.keptNone KA
      have L4 := owns_keptNone L3 KA
      have G4 := grown_trans G3 KA
      have HPB : Hid (bk = ⟨⟨code, en, ⟨ic, it, jf, ik⟩, yes, no⟩, a2, cap2⟩) := hbk
      clear hbk B3 L3 G3 KA
      go_wp2_with (first
        | refine wpList_load_row rfl 56 (.tmp 5) rfl D rfl 56 #[.slice (a2) code.length cap2, .int .i64 en, .int .u16 (ic.toNat : Int), .int .u8 (it.toNat : Int), .int .u8 (jf.toNat : Int), .int .u32 (ik.toNat : Int), .int .i64 yes, .int .i64 no] (0, 0) _ V3 Tryz.underlying56 rfl HSZ.out ?_
        | (at_builtin; refine wpList_append_cv rfl (.tmp 23) (.tmp 25) 22 rfl 56 i0 _ 8 56 Tryz.underlying22 hi hz0 hz1 hz2 rfl (by decide) w.heap.size _ ys.length (flatB ys) rfl ?q1 (some ⟨w3.heap.size, 0, none⟩) 1 1 (flatB [bk]) rfl rfl (fun e => by cases e) ?q2 (flatB_one _) ?q3 ?q4 ?q5 ?q6))
      case q1 => exact B4.1
      case q2 => exact CA
      case q3 => unfold maxLen; have := HYL.out; omega
      case q4 => have := HYL.out; omega
      case q5 => exact G4.size
      case q6 =>
        intro v' w5 h5 K5
        have B5 : BLv w5 w.heap.size v' (ys ++ [bk]) := B4.push (by rw [HPB.out]; exact L4) (by rw [HPB.out]; exact HAP.out) h5 K5
        have G5 := grown_trans_new G4 K5 (fun z hz => (B4.1.lt z hz).1)
        have HV5 : Hid (gOf (ys ++ [bk]) = (gOf xs).take (k + 1)) := by
          show _ = _
          rw [HV2.out, HPB.out]
          simp [gOf]
        have HL5 : Hid ((ys ++ [bk]).length = k + 1) := by
          show _ = _
          rw [List.length_append, HYL.out]
          rfl
        clear h5 K5 B4 G4 L4 CA
        go_wp2
        go_roundw
        case rel => exact ⟨k + 1, ys ++ [bk], by omega, by go_num, HV5, HL5.out, B5, G5⟩
        case measure => simp [intOf]; omega
    · have hl : ¬ (k : Int) < (xs.length : Int) := by omega
      have hke : k = xs.length := by omega
      subst hke
      have HV5 : Hid (gOf ys = gOf xs) := by
        show _ = _
        rw [HV.out, List.take_of_length_le (by rw [gOf_len]; exact Nat.le_refl _)]
      clear HV
      go_wp2
      go_ret
      exact ⟨_, ys, rfl, B, HV5.out, G⟩

end Go.Proofs.YtencoknpocipbaaGreat

namespace Go.Proofs.YtencoknpocipbaaGreat
open Go.ChangeShapes Go.WideShapes Go.ChangeAt Go.RowKit
set_option maxRecDepth 100000

theorem own : ownKnob Tryz.prog.godebug = none := by kernel_rfl
theorem laidOut : laidOutB Tryz.prog = true := by kernel_rfl
theorem bytes5 : Tryz.prog.bytesOf 5 = 1 := by kernel_rfl

theorem open_bytes {H : Type} {enc : TypeId × Value → H} {P : Program} {W : World} {t e : TypeId} {d : DataW H} {ps : List MemPlace} {a : Option Addr} {len cap : Nat}
    (ht : P.underlying t = some (.slice e)) (he : P.underlying e = some (.int .u8)) (hc : P.cellsOf e = 1)
    (h : DataW.Trod enc P W 0 (fun _ => true) true t (.slice a len cap) d ps) :
    ∃ xs : List UInt8, len = xs.length ∧ Cells W a xs ∧ (a = none → cap = 0) ∧ ((d = .nil ∧ xs = []) ∨ ∃ elems spare, d = .slice elems spare ∧ xs.length ≤ elems.length + spare.length) := by
  obtain ⟨fuel, hf⟩ := h
  rcases open_ints ht he hc hf with ⟨hcs, hx⟩ | ⟨x, l, c, zs, hcs, _, hl, hm, hz, hx, hcell, hwz⟩
  · simp [Value.cells] at hcs
    obtain ⟨rfl, rfl, rfl⟩ := hcs
    simp only [Prod.mk.injEq] at hx
    exact ⟨[], rfl, ⟨fun _ => rfl, fun ad had => (by cases had)⟩, fun _ => rfl, .inl ⟨hx.1, rfl⟩⟩
  · simp [Value.cells] at hcs
    obtain ⟨rfl, rfl, rfl⟩ := hcs
    simp only [Prod.mk.injEq] at hx
    have hz' : zs.length = cap := by simpa using hz
    have hlen : ((zs.take len).map fun z => UInt8.ofNat z.toNat).length = len := by simp; omega
    refine ⟨(zs.take len).map fun z => UInt8.ofNat z.toNat, hlen.symm, ⟨fun h => (by cases h), fun ad had i hi => ?_⟩, fun h => (by cases h), .inr ⟨_, _, hx.1, ?_⟩⟩
    · obtain rfl := Option.some.inj had
      rw [hlen] at hi
      have hiz : i < zs.length := by omega
      rw [hcell i hiz]
      have hw := bounds_u8 (hwz (zs[i]) (List.getElem_mem hiz))
      simp only [List.getD_eq_getElem?_getD, List.getElem?_eq_getElem hiz, Option.getD_some, List.getElem_map, List.getElem_take, bv]
      congr 2
      simp
      omega
    · rw [hlen]
      simp [lits]
      omega

theorem bulk_one {H : Type} (d : DataW H) : 1 ≤ Rows.uptoBulk d := by
  unfold Rows.uptoBulk
  split <;> omega

theorem bulk_all {H : Type} (l : List (DataW H)) : l.length ≤ Rows.uptoBulkAll l := by
  induction l with
  | nil => exact Nat.zero_le _
  | cons x r ih =>
    have := bulk_one x
    rw [Rows.uptoBulkAll, List.length_cons]
    omega

/-- A list's places count. -/
theorem bulk_slice {H : Type} (elems spare : List (DataW H)) : elems.length + spare.length + 1 ≤ Rows.uptoBulk (.slice elems spare) := by
  have h1 := bulk_all elems
  have h2 := bulk_all spare
  rw [Rows.uptoBulk]
  omega

/-- A text's letters count. -/
theorem bulk_string {H : Type} (s : ByteArray) : Rows.uptoBulk (DataW.lit (H := H) (.string s.data.toList)) = s.size + 1 := by
  rw [Rows.uptoBulk, Array.length_toList]
  rfl

end Go.Proofs.YtencoknpocipbaaGreat

namespace Go.Proofs.YtencoknpocipbaaGreat
open Go.ChangeShapes Go.WideShapes Go.ChangeAt Go.RowKit
set_option maxRecDepth 100000

theorem bytes54 : Tryz.prog.bytesOf 54 = 8 := by kernel_rfl
theorem cells54 : Tryz.prog.cellsOf 54 = 4 := by kernel_rfl
theorem cells52 : Tryz.prog.cellsOf 52 = 1 := by kernel_rfl
theorem cells5 : Tryz.prog.cellsOf 5 = 1 := by kernel_rfl
theorem cells33 : Tryz.prog.cellsOf 33 = 1 := by kernel_rfl

/-- The instruction that four cells are. -/
def inOf : List Value → In
  | [.int _ a, .int _ b, .int _ c, .int _ d] => ⟨UInt16.ofNat a.toNat, UInt8.ofNat b.toNat, UInt8.ofNat c.toNat, UInt32.ofNat d.toNat⟩
  | _ => ⟨0, 0, 0, 0⟩

theorem insn_cells {H : Type} {enc : TypeId × Value → H} {W : World} {base : Nat} {spare : Nat → Bool} {held : Bool} {fuel : Nat} {cs : List Value} {x : DataW H × List MemPlace} (h : DataW.trod enc Tryz.prog W base spare held fuel 54 cs = some x) : cs = (inOf cs).cells := by
  obtain ⟨ys, n, _, rfl, hl, hlen, hf⟩ := DataW.trod_struct Tryz.underlying54 h
  rw [cells54] at hl
  match cs, hl with
  | [c0, c1, c2, c3], _ =>
    match ys, hlen with
    | [y0, y1, y2, y3], _ =>
      have f0 : DataW.trod enc Tryz.prog W base spare held n 52 (([c0, c1, c2, c3].drop 0).take (Tryz.prog.cellsOf 52)) = some y0 := hf 0 _ rfl
      have f1 : DataW.trod enc Tryz.prog W base spare held n 5 (([c0, c1, c2, c3].drop 1).take (Tryz.prog.cellsOf 5)) = some y1 := hf 1 _ rfl
      have f2 : DataW.trod enc Tryz.prog W base spare held n 5 (([c0, c1, c2, c3].drop 2).take (Tryz.prog.cellsOf 5)) = some y2 := hf 2 _ rfl
      have f3 : DataW.trod enc Tryz.prog W base spare held n 33 (([c0, c1, c2, c3].drop 3).take (Tryz.prog.cellsOf 33)) = some y3 := hf 3 _ rfl
      rw [cells52] at f0
      rw [cells5] at f1 f2
      rw [cells33] at f3
      obtain ⟨n0, e0, _, w0⟩ := DataW.trod_int Tryz.underlying52 f0
      obtain ⟨n1, e1, _, w1⟩ := DataW.trod_int Tryz.underlying5 f1
      obtain ⟨n2, e2, _, w2⟩ := DataW.trod_int Tryz.underlying5 f2
      obtain ⟨n3, e3, _, w3⟩ := DataW.trod_int Tryz.underlying33 f3
      simp at e0 e1 e2 e3
      subst e0 e1 e2 e3
      have b0 := bounds_u16 w0
      have b1 := bounds_u8 w1
      have b2 := bounds_u8 w2
      have b3 := bounds_u32 w3
      have z0 : ((UInt16.ofNat n0.toNat).toNat : Int) = n0 := by simp; omega
      have z1 : ((UInt8.ofNat n1.toNat).toNat : Int) = n1 := by simp; omega
      have z2 : ((UInt8.ofNat n2.toNat).toNat : Int) = n2 := by simp; omega
      have z3 : ((UInt32.ofNat n3.toNat).toNat : Int) = n3 := by simp; omega
      simp only [inOf, In.cells, z0, z1, z2, z3]

/-- An instruction that is handed in. -/
theorem open_insn {H : Type} {enc : TypeId × Value → H} {W : World} {d : DataW H} {ps : List MemPlace} {v : Value}
    (h : DataW.Trod enc Tryz.prog W 0 (fun _ => true) true 54 v d ps) : ∃ x : In, v = .agg x.cells.toArray := by
  obtain ⟨fuel, hf⟩ := h
  have e := insn_cells hf
  refine ⟨inOf v.cells.toList, ?_⟩
  cases v with
  | agg cs =>
    rw [← e]
    simp [Value.cells]
  | _ => have := congrArg List.length e; simp [Value.cells, In.cells] at this

theorem open_insns {H : Type} {enc : TypeId × Value → H} {W : World} {d : DataW H} {ps : List MemPlace} {a : Option Addr} {len cap : Nat}
    (h : DataW.Trod enc Tryz.prog W 0 (fun _ => true) true 24 (.slice a len cap) d ps) :
    ∃ xs : List In, len = xs.length ∧ CV W a (flat xs) ∧ (a = none → cap = 0) ∧ (xs.length ≤ cap ∧ cap ≤ maxLen) ∧ ((d = .nil ∧ xs = []) ∨ ∃ elems spare, d = .slice elems spare ∧ xs.length ≤ elems.length + spare.length) := by
  obtain ⟨fuel, hf⟩ := h
  rcases Go.Deep.open_slice Tryz.underlying24 hf with ⟨hcs, hx⟩ | ⟨x, l, c, m, n, D, Pl, hcs, _, hl, hm, hmm, hx, hcell⟩
  · simp [Value.cells] at hcs
    obtain ⟨rfl, rfl, rfl⟩ := hcs
    simp only [Prod.mk.injEq] at hx
    exact ⟨[], rfl, ⟨fun _ => rfl, fun ad had => (by cases had)⟩, fun _ => rfl, ⟨Nat.le_refl _, Nat.zero_le _⟩, .inl ⟨hx.1, rfl⟩⟩
  · simp [Value.cells] at hcs
    obtain ⟨rfl, rfl, rfl⟩ := hcs
    simp only [Prod.mk.injEq] at hx
    simp only [if_true] at hmm
    have hmm' : m = cap := hmm
    rw [cells54] at hcell
    have hlen : ((List.range len).map fun i => inOf ((W.cells? 0 (x.add (i * 4)) 4).getD [])).length = len := by simp
    refine ⟨(List.range len).map fun i => inOf ((W.cells? 0 (x.add (i * 4)) 4).getD []), hlen.symm, ⟨fun h => (by cases h), fun ad had q hq => ?_⟩, fun h => (by cases h), ⟨by rw [hlen]; exact hl, hm⟩, .inr ⟨_, _, hx.1, ?_⟩⟩
    · obtain rfl := Option.some.inj had
      have hq4 : q < len * 4 := by rw [flat_len, hlen] at hq; exact hq
      obtain ⟨cs', hcs', htr⟩ := hcell (q / 4) (by omega)
      obtain ⟨_, hl4, hget⟩ := World.cells?_some hcs'
      have hk := insn_cells htr
      have hj : q % 4 < 4 := Nat.mod_lt _ (by decide)
      have e1 : (x.add (q / 4 * 4)).add (q % 4) = x.add q := by
        rw [Addr.add_add]
        congr 1
        omega
      have e2 := hget (q % 4) hj
      rw [e1] at e2
      rw [e2]
      have e3 := flat_get ((List.range len).map fun i => inOf ((W.cells? 0 (x.add (i * 4)) 4).getD [])) (q / 4) (q % 4) (by rw [hlen]; omega) hj
      rw [show q / 4 * 4 + q % 4 = q by omega, List.getElem?_eq_getElem hq] at e3
      rw [e3]
      simp only [List.getElem_map, List.getElem_range, hcs', Option.getD_some]
      rw [← hk]
    · rw [hlen]
      simp

end Go.Proofs.YtencoknpocipbaaGreat
