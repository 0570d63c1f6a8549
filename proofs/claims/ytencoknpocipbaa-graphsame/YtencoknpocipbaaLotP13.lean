/-
  Blocks in memory; package graph as landed: what is wrong with a block, with a graph. The document's own answers for chapter 15: what is wrong with a graph. Codes of instructions: those that are plain, those that return. No Go text here.
-/
import Derived.Test.YtencoknpocipbaaGrF
import Derived.Test.YtencoknpocipbaaLotP5
namespace Go.Proofs.Ytencoknpocipbaa
open Go.RowKit
set_option maxRecDepth 100000

/-- A block, and where its Code lies. -/
structure Bv where
  b : Bk
  a : Option Addr
  ca : Nat
def Bv.cells (x : Bv) : List Value := [.slice x.a x.b.code.length x.ca, .int .i64 x.b.en, .int .u16 (x.b.last.code.toNat : Int), .int .u8 (x.b.last.jt.toNat : Int), .int .u8 (x.b.last.jf.toNat : Int), .int .u32 (x.b.last.k.toNat : Int), .int .i64 x.b.yes, .int .i64 x.b.no]
def flatB (xs : List Bv) : List Value := xs.flatMap Bv.cells
theorem flatB_nil : flatB [] = [] := rfl
theorem flatB_cons (x : Bv) (xs : List Bv) : flatB (x :: xs) = x.cells ++ flatB xs := rfl
theorem flatB_append (xs ys : List Bv) : flatB (xs ++ ys) = flatB xs ++ flatB ys := by simp only [flatB, List.flatMap_append]
theorem flatB_len (xs : List Bv) : (flatB xs).length = xs.length * 8 := by
  induction xs with
  | nil => rfl
  | cons x xs ih => rw [flatB_cons, List.length_append, ih, List.length_cons]; simp only [Bv.cells, List.length_cons, List.length_nil]; omega
theorem flatB_get (xs : List Bv) (i j : Nat) (hi : i < xs.length) (hj : j < 8) : (flatB xs)[i * 8 + j]? = (xs[i].cells)[j]? := by
  induction xs generalizing i with
  | nil => simp at hi
  | cons x xs ih =>
    rw [flatB_cons]
    cases i with
    | zero => rw [Nat.zero_mul, Nat.zero_add, List.getElem?_append_left (by simp [Bv.cells]; omega)]; rfl
    | succ i =>
      rw [List.getElem?_append_right (by simp [Bv.cells]; omega)]
      have := ih i (by simpa using hi)
      rw [show (i + 1) * 8 + j - x.cells.length = i * 8 + j by simp [Bv.cells]; omega, this]
      rfl
theorem flatB_one (xs : List Bv) : ∀ u ∈ flatB xs, u.oneCell' = true := by
  intro u hu
  obtain ⟨x, -, hx⟩ := List.mem_flatMap.1 hu
  simp only [Bv.cells, List.mem_cons, List.not_mem_nil, or_false] at hx
  rcases hx with rfl | rfl | rfl | rfl | rfl | rfl | rfl | rfl <;> rfl
theorem CV.blocks {w : World} {ao : Option Addr} {xs : List Bv} (h : CV w ao (flatB xs)) {k : Nat} (hk : k < xs.length) :
    ∃ b off, ao = some ⟨b, off, none⟩ ∧ ∀ i (hi : i < xs.length), ∀ j v, xs[i].cells[j]? = some v → w.cell? ⟨b, off + i * 8 + j, none⟩ = some v := by
  have hl := flatB_len xs
  obtain ⟨b, off, hao, hc⟩ := h.addr (k := k * 8) (by omega)
  refine ⟨b, off, hao, fun i hi j v hv => ?_⟩
  have hj : j < 8 := (List.getElem?_eq_some_iff.1 hv).1
  rw [← flatB_get xs i j hi hj] at hv
  rw [Nat.add_assoc, hc (i * 8 + j) (by omega), ← hv, List.getElem?_eq_getElem (by omega)]

/-- Its Code can be read. -/
def BOk (w : World) (x : Bv) : Prop := CV w x.a (flat x.b.code) ∧ x.b.code.length ≤ x.ca ∧ (x.a = none → x.ca = 0)
/-- Blocks that can be read. -/
def GC (w : World) (ao : Option Addr) (xs : List Bv) : Prop := CV w ao (flatB xs) ∧ ∀ x ∈ xs, BOk w x
theorem GC.keptNone {w w' : World} {ao : Option Addr} {xs : List Bv} (h : GC w ao xs) (G : w.grownBy w' none) : GC w' ao xs := ⟨h.1.keptNone G, fun x hx => ⟨(h.2 x hx).1.keptNone G, (h.2 x hx).2⟩⟩
def gOf (xs : List Bv) : List Bk := xs.map Bv.b
theorem gOf_len (xs : List Bv) : (gOf xs).length = xs.length := by simp [gOf]

set_option maxHeartbeats 2000000 in
theorem gfault_any (b : Bk) (a : Option Addr) (ca i n : Nat) (room : Int) (w : World) (ha : CV w a (flat b.code)) (hca : b.code.length ≤ ca) (hr : 0 ≤ room → b.code.length ≤ 4096) :
    Calls Try.prog 19 #[bkV b a ca, .int .i64 (i : Int), .int .i64 (n : Int), .int .i64 room] w fun e w' => e = .returned (.int .i64 (faultB b i n room)) ∧ w.grownBy w' none := by
  have HS : Hid (∀ W : World, w.grownBy W none → 0 ≤ room → Calls Try.prog 32 #[.slice a b.code.length ca] W fun e w' => e = .returned (.bool (straightB b.code)) ∧ W.grownBy w' none) := fun W G h => straight_any a ca b.code W (ha.keptNone G) (hr h) hca
  have HE : Hid (∀ W : World, Calls Try.prog 33 #[bkV b a ca] W fun e w' => e = .returned (.bool (gendsB b)) ∧ W.grownBy w' none) := fun W => ends_any b a ca W
  have HL : Hid (∀ W : World, Calls Try.prog 34 #[bkV b a ca, .int .i64 (i : Int), .int .i64 (n : Int)] W fun e w' => e = .returned (.bool (leadsB b i n)) ∧ W.grownBy w' none) := fun W => leads_any b a ca i n W
  obtain ⟨F, hF⟩ : ∃ F, faultB b i n room = F := ⟨_, rfl⟩
  rw [hF]
  have HF : Hid (F = if room < 0 then 151 else if straightB b.code = false then 152 else if gendsB b = false then 153 else if leadsB b i n = false then 154 else 0) := hF.symm
  clear hF ha hca hr
  have V0 := GVt.alloc w 48 (bkA b a ca)
  have G0 : w.grownBy (w.alloc (.cells (bkA b a ca) 48)) none := World.grownBy_alloc _ _ _
  generalize straightB b.code = s at *
  generalize gendsB b = en at *
  generalize leadsB b i n = le at *
  go_enter Try.func19, Try.ntmps19
  go_upto_region 1 with fail
  generalize w.alloc (.cells (bkA b a ca) 48) = w1 at *
  generalize w.heap.size = A at *
  have HV : Hid (GVt w1 A 48 (bkA b a ca)) := V0
  have HSZ : Hid ((Try.prog.info? 48).map (·.size) = some (bkA b a ca).size) := (by kernel_rfl : (Try.prog.info? 48).map (·.size) = some 8)
  by_cases hneg : room < 0
  · have hneg' : decide (room < 0) = true := decide_eq_true hneg
    have HF1 : Hid (F = 151) := HF.out.trans (if_pos hneg)
    clear HF V0
    go_wp2
    go_ret
    exact ⟨ret_int HF1.out.symm, G0⟩
  · have hneg' : decide (room < 0) = false := decide_eq_false hneg
    have HF1 : Hid (F = if s = false then 152 else if en = false then 153 else if le = false then 154 else 0) := HF.out.trans (if_neg hneg)
    have a0 : w1.cell? ⟨A, 0, none⟩ = some (.slice a b.code.length ca) := V0.cell 0
    clear HF V0
    go_wp2_with fail
    refine (HS.out _ G0 (by omega)).mono ?_
    rintro e w2 ⟨rfl, K2⟩
    have HV2 : Hid (GVt w2 A 48 (bkA b a ca)) := HV.out.kept K2
    have G2 := grown_trans G0 K2
    clear HV K2 G0 a0 HS
    cases s with
    | false =>
      have HF2 : Hid (F = 152) := HF1.out.trans (if_pos rfl)
      clear HF1
      go_wp2
      go_ret
      exact ⟨ret_int HF2.out.symm, G2⟩
    | true =>
      have HF2 : Hid (F = if en = false then 153 else if le = false then 154 else 0) := HF1.out.trans (if_neg (by simp))
      clear HF1
      go_wp2_with (first | refine wpList_load_row rfl 48 (.tmp 4) rfl A rfl 48 (bkA b a ca) (0, 0) _ HV2.out Try.underlying48 rfl HSZ.out ?_ | fail)
      refine (HE.out _).mono ?_
      rintro e w3 ⟨rfl, K3⟩
      have HV3 : Hid (GVt w3 A 48 (bkA b a ca)) := HV2.out.kept K3
      have G3 := grown_trans G2 K3
      clear HV2 K3 G2 HE
      cases en with
      | false =>
        have HF3 : Hid (F = 153) := HF2.out.trans (if_pos rfl)
        clear HF2
        go_wp2
        go_ret
        exact ⟨ret_int HF3.out.symm, G3⟩
      | true =>
        have HF3 : Hid (F = if le = false then 154 else 0) := HF2.out.trans (if_neg (by simp))
        clear HF2
        go_wp2_with (first | refine wpList_load_row rfl 48 (.tmp 4) rfl A rfl 48 (bkA b a ca) (0, 0) _ HV3.out Try.underlying48 rfl HSZ.out ?_ | fail)
        refine (HL.out _).mono ?_
        rintro e w4 ⟨rfl, K4⟩
        have G4 := grown_trans G3 K4
        clear HV3 K4 G3 HL
        cases le with
        | false =>
          have HF4 : Hid (F = 154) := HF3.out.trans (if_pos rfl)
          clear HF3
          go_wp2
          go_ret
          exact ⟨ret_int HF4.out.symm, G4⟩
        | true =>
          have HF4 : Hid (F = 0) := HF3.out.trans (if_neg (by simp))
          clear HF3
          go_wp2
          go_ret
          exact ⟨ret_int HF4.out.symm, G4⟩

theorem firstG_at {n : Nat} : ∀ {i : Nat} {room : Int} {g : List Bk}, firstG n i room g = (match g with | [] => (0, 0) | b :: r => if faultB b i n (room - b.code.length) = 0 then firstG n (i + 1) (room - b.code.length) r else (i, faultB b i n (room - b.code.length)))
  | _, _, [] => rfl
  | _, _, _ :: _ => rfl

theorem firstG_drop {n : Nat} {g : List Bk} {k : Nat} (hk : k < g.length) (room : Int) : firstG n k room (g.drop k) = if faultB g[k] k n (room - g[k].code.length) = 0 then firstG n (k + 1) (room - g[k].code.length) (g.drop (k + 1)) else (k, faultB g[k] k n (room - g[k].code.length)) := by
  rw [List.drop_eq_getElem_cons hk, firstG]

set_option maxHeartbeats 4000000 in
theorem gcheck_any (a : Option Addr) (ca : Nat) (xs : List Bv) (w : World) (ha : GC w a xs) (hlen : ∀ x ∈ xs, x.b.code.length ≤ 4611686018427387904) :
    Calls Try.prog 8 #[.slice a xs.length ca] w fun e w' => e = .returned (.tuple #[.int .i64 ((gckG (gOf xs)).1 : Int), .int .i64 (gckG (gOf xs)).2]) ∧ w.grownBy w' none := by
  have H : Hid (GC w a xs) := ha
  clear ha
  by_cases h0 : xs.length = 0
  · have e : gckG (gOf xs) = (0, 150) := by rw [gckG, if_pos (by rw [gOf_len]; exact h0)]
    rw [e]
    have h0' : ((xs.length : Int) == 0) = true := by rw [h0]; rfl
    have H0 : Hid (xs.length = 0) := h0
    clear h0
    go_enter Try.func8, Try.ntmps8
    go_wp2
    go_ret2
    exact ⟨rfl, World.grownBy.refl _ _⟩
  · have h0' : ((xs.length : Int) == 0) = false := by rw [beq_eq_false_iff_ne]; omega
    by_cases h4 : 4096 < xs.length
    · have e : gckG (gOf xs) = (4096, 151) := by rw [gckG, if_neg (by rw [gOf_len]; exact h0), if_pos (by rw [gOf_len]; exact h4)]
      rw [e]
      have h4' : (4096 : Int) < (xs.length : Int) := by omega
      go_enter Try.func8, Try.ntmps8
      go_wp2
      go_ret2
      exact ⟨rfl, World.grownBy.refl _ _⟩
    · have e : gckG (gOf xs) = firstG xs.length 0 4096 (gOf xs) := by rw [gckG, if_neg (by rw [gOf_len]; exact h0), if_neg (by rw [gOf_len]; exact h4), gOf_len]
      obtain ⟨p, q, hpq⟩ : ∃ p q, gckG (gOf xs) = (p, q) := ⟨_, _, rfl⟩
      have HE : Hid (firstG xs.length 0 4096 ((gOf xs).drop 0) = (p, q)) := by rw [← hpq, e, List.drop_zero]; rfl
      rw [hpq]
      have h4' : ¬ (4096 : Int) < (xs.length : Int) := by omega
      clear e hpq
      go_enter Try.func8, Try.ntmps8
      go_wp2
      go_loopw [4, 16] (fun r i wr => ∃ (k : Nat) (rm : Int), k ≤ xs.length ∧ i = .int .i64 k ∧ r = .int .i64 rm ∧ Hid (firstG xs.length k rm ((gOf xs).drop k) = (p, q)) ∧ 0 ≤ rm ∧ rm ≤ 4096 ∧ w.grownBy wr none) (fun _ i _ => xs.length - (intOf i).toNat)
      case atStart => exact ⟨0, 4096, Nat.zero_le _, rfl, rfl, HE, by omega, by omega, World.grownBy.refl _ _⟩
      case round =>
        clear HE
        obtain ⟨k, rm, hk, rfl, rfl, HN, hr0, hr1, G⟩ := hrel
        by_cases hlt : k < xs.length
        · have hl : (k : Int) < (xs.length : Int) := by omega
          obtain ⟨b1, o1, rfl, h1⟩ := ((H.out.keptNone G).1).blocks hlt
          have h1 := h1 k hlt
          have hok := (H.out.keptNone G).2 xs[k] (List.getElem_mem hlt)
          have hle := hlen xs[k] (List.getElem_mem hlt)
          have HN2 := HN.out
          rw [firstG_drop (by rw [gOf_len]; exact hlt)] at HN2
          rw [show (gOf xs)[k]'(by rw [gOf_len]; exact hlt) = xs[k].b by simp [gOf]] at HN2
          generalize xs[k] = x at *
          obtain ⟨b, xa, xc⟩ := x
          simp only at HN2 hle
          have HN3 : Hid ((if faultB b k xs.length (rm - b.code.length) = 0 then firstG xs.length (k + 1) (rm - b.code.length) ((gOf xs).drop (k + 1)) else (k, faultB b k xs.length (rm - b.code.length))) = (p, q)) := HN2
          have CF := fun W (G' : wr.grownBy W none) => gfault_any b xa xc k xs.length (rm - b.code.length) W (hok.1.keptNone G') hok.2.1 (fun h => by omega)
          clear HN2 HN hok
          have c0 := h1 0 _ rfl
          have c1 := h1 1 _ rfl
          have c2 := h1 2 _ rfl
          have c3 := h1 3 _ rfl
          have c4 := h1 4 _ rfl
          have c5 := h1 5 _ rfl
          have c6 := h1 6 _ rfl
          have c7 := h1 7 _ rfl
          clear h1
          rw [Nat.add_zero] at c0
          obtain ⟨code, en, ⟨ic, it, jf, ik⟩, yes, no⟩ := b
          simp only at c0 c1 c2 c3 c4 c5 c6 c7 hle
          simp only [bkV, bkA] at CF HN3
          generalize hfb : faultB ⟨code, en, ⟨ic, it, jf, ik⟩, yes, no⟩ k xs.length (rm - (code.length : Int)) = fb at *
          have HFB : Hid (fb = 0 → 0 ≤ rm - (code.length : Int)) := fun h => by
            by_cases hneg : rm - (code.length : Int) < 0
            · rw [← hfb, faultB, if_pos hneg] at h
              cases h
            · omega
          clear hfb
          have V1 := GVt.alloc wr 48 #[.slice xa code.length xc, .int .i64 en, .int .u16 (ic.toNat : Int), .int .u8 (it.toNat : Int), .int .u8 (jf.toNat : Int), .int .u32 (ik.toNat : Int), .int .i64 yes, .int .i64 no]
          have G1 : wr.grownBy (wr.alloc (.cells #[.slice xa code.length xc, .int .i64 en, .int .u16 (ic.toNat : Int), .int .u8 (it.toNat : Int), .int .u8 (jf.toNat : Int), .int .u32 (ik.toNat : Int), .int .i64 yes, .int .i64 no] 48)) none := World.grownBy_alloc _ _ _
          have HSZ : Hid ((Try.prog.info? 48).map (·.size) = some 8) := by show _ = _; kernel_rfl
          have hsub : IntKind.i64.wrap (rm - (code.length : Int)) = rm - (code.length : Int) := by rw [IntKind.wrap_i64]; omega
          go_upto_region 9 with fail
          generalize wr.alloc (.cells #[.slice xa code.length xc, .int .i64 en, .int .u16 (ic.toNat : Int), .int .u8 (it.toNat : Int), .int .u8 (jf.toNat : Int), .int .u32 (ik.toNat : Int), .int .i64 yes, .int .i64 no] 48) = w1 at *
          generalize wr.heap.size = B at *
          have a0 : w1.cell? ⟨B, 0, none⟩ = some (.slice xa code.length xc) := V1.cell 0
          have CF1 := CF w1 G1
          clear c0 c1 c2 c3 c4 c5 c6 c7 CF
          go_wp2_with (first | refine wpList_load_row rfl 48 (.tmp 6) rfl B rfl 48 #[.slice xa code.length xc, .int .i64 en, .int .u16 (ic.toNat : Int), .int .u8 (it.toNat : Int), .int .u8 (jf.toNat : Int), .int .u32 (ik.toNat : Int), .int .i64 yes, .int .i64 no] (0, 0) _ V1 Try.underlying48 rfl HSZ.out ?_ | fail)
          refine CF1.mono ?_
          rintro e w2 ⟨rfl, K2⟩
          have G2 := grown_trans (grown_trans G G1) K2
          clear K2 G1 G V1 a0 CF1
          by_cases hz : fb = 0
          · subst hz
            have HN4 : Hid (firstG xs.length (k + 1) (rm - (code.length : Int)) ((gOf xs).drop (k + 1)) = (p, q)) := (if_pos rfl).symm.trans HN3.out
            have hr2 := HFB.out rfl
            clear HN3 HFB
            go_wp2
            go_roundw
            case rel => exact ⟨k + 1, rm - (code.length : Int), by omega, by go_num, rfl, HN4, hr2, by omega, G2⟩
            case measure => simp [intOf]; omega
          · have hz' : (fb != 0) = true := by rw [bne_iff_ne]; exact hz
            have HN4 : Hid ((k, fb) = (p, q)) := (if_neg hz).symm.trans HN3.out
            clear HN3 HFB
            go_wp2
            go_ret2
            obtain ⟨rfl, rfl⟩ := Prod.mk.inj HN4.out
            exact ⟨rfl, G2⟩
        · have hl : ¬ (k : Int) < (xs.length : Int) := by omega
          have HP : Hid ((0, 0) = (p, q)) := by
            have := HN.out
            rw [List.drop_eq_nil_of_le (by rw [gOf_len]; omega), firstG] at this
            exact this
          go_wp2
          go_ret2
          obtain ⟨rfl, rfl⟩ := Prod.mk.inj HP.out
          exact ⟨rfl, G⟩

end Go.Proofs.Ytencoknpocipbaa

namespace Go.Proofs.Ytencoknpocipbaa
open Go.RowKit
set_option maxRecDepth 100000

theorem box8_alloc0 (w : World) (b : Bk) (a : Option Addr) (ca : Nat) : Box8 w w.heap.size b.en b.last.code.toNat b.last.jt.toNat b.last.jf.toNat b.last.k.toNat b.yes b.no (w.alloc (.cells (bkA b a ca) 48)) := by
  have h := cv_lit w 48 (bkA b a ca).toList
  exact ⟨h.2 _ rfl 1 (by simp), h.2 _ rfl 2 (by simp), h.2 _ rfl 3 (by simp), h.2 _ rfl 4 (by simp), h.2 _ rfl 5 (by simp), h.2 _ rfl 6 (by simp), h.2 _ rfl 7 (by simp), World.grownBy_alloc _ _ _⟩

theorem class6_ret (c : Int) : (classV c == 6) = retB c := by
  cases hk : knownB c with
  | false =>
    have h1 : classV c = -1 := by rw [classV, if_neg (by rw [hk]; simp)]
    rw [h1]
    cases hr : retB c with
    | false => rfl
    | true =>
      exfalso
      simp only [retB, Bool.or_eq_true, beq_iff_eq] at hr
      rcases hr with rfl | rfl
      · exact absurd hk (by decide)
      · exact absurd hk (by decide)
  | true =>
    have := known_all (fun c => (classV c == 6) == retB c) (by decide +kernel) hk
    exact beq_iff_eq.1 this
theorem usesJ_jump (c : Int) : usesJ c = jumpB c := by
  unfold usesJ knownB
  cases jumpB c <;> simp
/-- Is a Last without what it does not look at? -/
theorem bare_eq (x : In) : inEq x (bareV x) = (x.jt == 0 && x.jf == 0 && (usesK x.code.toNat || x.k == 0)) := by
  unfold inEq bareV
  cases hu : usesK x.code.toNat with
  | true => simp
  | false => simp

attribute [local go_sem high] insn_eql

end Go.Proofs.Ytencoknpocipbaa

namespace Go.Proofs.Ytencoknpocipbaa
open Go.RowKit
set_option maxRecDepth 100000

theorem plain_codes {x : In} (h : leavesB x = false) : ((x.code.toNat : Int) == 6) = false ∧ ((x.code.toNat : Int) == 22) = false ∧ ((x.code.toNat : Int) == 5) = false ∧ jumpB (x.code.toNat : Int) = false := by
  have h0 : (classV x.code.toNat == 5) = false ∧ (classV x.code.toNat == 6) = false := by
    rw [leavesB, Bool.or_eq_false_iff] at h
    exact h
  refine ⟨?_, ?_, ?_, ?_⟩
  · cases e : ((x.code.toNat : Int) == 6) with
    | false => rfl
    | true => rw [beq_iff_eq.1 e] at h0; exact absurd h0.2 (by decide)
  · cases e : ((x.code.toNat : Int) == 22) with
    | false => rfl
    | true => rw [beq_iff_eq.1 e] at h0; exact absurd h0.2 (by decide)
  · cases e : ((x.code.toNat : Int) == 5) with
    | false => rfl
    | true => rw [beq_iff_eq.1 e] at h0; exact absurd h0.1 (by decide)
  · cases e : jumpB (x.code.toNat : Int) with
    | false => rfl
    | true =>
      simp only [jumpB, Bool.or_eq_true, beq_iff_eq] at e
      rcases e with ((((((e | e) | e) | e) | e) | e) | e) | e <;> (rw [e] at h0; exact absurd h0.1 (by decide))

theorem leaves5 {x : In} (h : leavesB x = true) (h6 : (classV x.code.toNat == 6) = false) : classV x.code.toNat = 5 := by
  rw [leavesB, h6, Bool.or_false] at h
  simpa using h

theorem ret_codes {x : In} (h6 : (classV x.code.toNat == 6) = true) : ((x.code.toNat : Int) == 6) = true ∨ (((x.code.toNat : Int) == 6) = false ∧ ((x.code.toNat : Int) == 22) = true) := by
  rw [class6_ret] at h6
  simp only [retB, Bool.or_eq_true] at h6
  rcases h6 with h | h
  · exact .inl h
  · cases e : ((x.code.toNat : Int) == 6) with
    | true => exact .inl rfl
    | false => exact .inr ⟨rfl, h⟩

theorem not_ret {x : In} (h6 : (classV x.code.toNat == 6) = false) : ((x.code.toNat : Int) == 6) = false ∧ ((x.code.toNat : Int) == 22) = false := by
  rw [class6_ret] at h6
  simp only [retB, Bool.or_eq_false_iff] at h6
  exact h6

end Go.Proofs.Ytencoknpocipbaa
