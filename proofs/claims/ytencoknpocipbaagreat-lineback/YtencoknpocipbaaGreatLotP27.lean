/-
  The document's own Step, of whatever instruction. The document's own Check of a graph. Runs through graphs: what the texts share. No Go text here. The document's own Takes and Run of a graph. Which blocks can be come to. No Go text here.
-/
import Derived.Test.YtencoknpocipbaaGreatVmC2
import Derived.Test.YtencoknpocipbaaGreatLotP19
import Derived.Test.YtencoknpocipbaaGreatLotP23
import Derived.Test.YtencoknpocipbaaGreatLotP12
import Derived.Test.YtencoknpocipbaaGreatLotP7
import Derived.Test.YtencoknpocipbaaGreatLotP5
namespace Go.Proofs.YtencoknpocipbaaGreat
open Go.RowKit
set_option maxRecDepth 100000

theorem beq_no {c : Int} {n : Int} (h : ¬ c = n) : (c == n) = false := by rw [beq_eq_false_iff_ne]; exact h

set_option maxHeartbeats 1000000 in
theorem refstep_any (b : Option Addr) (cb : Nat) (pk : List UInt8) (g base : Nat) (M : Mc) (c : Int) (t f k : Nat) (w : World) (hm : MAt w 90 base g M) (hk : k ≤ 4294967295) (hC : Cells w b pk) (hp : pk.length ≤ 65536) (hM : M.ok) :
    Calls Tryz.prog 34 #[.pointer (some ⟨g, 0, none⟩), .agg #[.int .u16 c, .int .u8 t, .int .u8 f, .int .u32 k], .slice b pk.length cb] w fun e w' => StepPost w 90 base g (stepV c k pk M).1 (stepV c k pk M).2 e w' := by
  have hp2 : pk.length ≤ 4294967295 := by omega
  by_cases q0 : c = 0
  · subst q0; have e : stepV 0 k pk M = (⟨k, M.x, M.m⟩, 0) := by simp [stepV]
    rw [e]; exact step_0 b cb pk g base M t f k w hm hk
  by_cases q32 : c = 32
  · subst q32; have e : stepV 32 k pk M = (⟨(readAtV pk k (sizeV 32)).1, M.x, M.m⟩, (readAtV pk k (sizeV 32)).2) := by simp [stepV]
    rw [e]; exact step_32 b cb pk g base M t f k w hm hk hC hp
  by_cases q40 : c = 40
  · subst q40; have e : stepV 40 k pk M = (⟨(readAtV pk k (sizeV 40)).1, M.x, M.m⟩, (readAtV pk k (sizeV 40)).2) := by simp [stepV]
    rw [e]; exact step_40 b cb pk g base M t f k w hm hk hC hp
  by_cases q48 : c = 48
  · subst q48; have e : stepV 48 k pk M = (⟨(readAtV pk k (sizeV 48)).1, M.x, M.m⟩, (readAtV pk k (sizeV 48)).2) := by simp [stepV]
    rw [e]; exact step_48 b cb pk g base M t f k w hm hk hC hp
  by_cases q64 : c = 64
  · subst q64; have e : stepV 64 k pk M = (⟨(readAtV pk (k + M.x) (sizeV 64)).1, M.x, M.m⟩, (readAtV pk (k + M.x) (sizeV 64)).2) := by simp [stepV]
    rw [e]; exact step_64 b cb pk g base M t f k w hm hk hC hp hM
  by_cases q72 : c = 72
  · subst q72; have e : stepV 72 k pk M = (⟨(readAtV pk (k + M.x) (sizeV 72)).1, M.x, M.m⟩, (readAtV pk (k + M.x) (sizeV 72)).2) := by simp [stepV]
    rw [e]; exact step_72 b cb pk g base M t f k w hm hk hC hp hM
  by_cases q80 : c = 80
  · subst q80; have e : stepV 80 k pk M = (⟨(readAtV pk (k + M.x) (sizeV 80)).1, M.x, M.m⟩, (readAtV pk (k + M.x) (sizeV 80)).2) := by simp [stepV]
    rw [e]; exact step_80 b cb pk g base M t f k w hm hk hC hp hM
  by_cases q96 : c = 96
  · subst q96; have e : stepV 96 k pk M = (⟨M.m.getD (k % 16) 0, M.x, M.m⟩, 0) := by simp [stepV]
    rw [e]; exact step_96 b cb pk g base M t f k w hm hk hM
  by_cases q128 : c = 128
  · subst q128; have e : stepV 128 k pk M = (⟨pk.length, M.x, M.m⟩, 0) := by simp [stepV]
    rw [e]; exact step_128 b cb pk g base M t f k w hm hk hp2
  by_cases q1 : c = 1
  · subst q1; have e : stepV 1 k pk M = (⟨M.a, k, M.m⟩, 0) := by simp [stepV]
    rw [e]; exact step_1 b cb pk g base M t f k w hm hk
  by_cases q97 : c = 97
  · subst q97; have e : stepV 97 k pk M = (⟨M.a, M.m.getD (k % 16) 0, M.m⟩, 0) := by simp [stepV]
    rw [e]; exact step_97 b cb pk g base M t f k w hm hk hM
  by_cases q129 : c = 129
  · subst q129; have e : stepV 129 k pk M = (⟨M.a, pk.length, M.m⟩, 0) := by simp [stepV]
    rw [e]; exact step_129 b cb pk g base M t f k w hm hk hp2
  by_cases q177 : c = 177
  · subst q177; have e : stepV 177 k pk M = (⟨M.a, 4 * ((readAtV pk k 1).1 % 16), M.m⟩, (readAtV pk k 1).2) := by simp [stepV]
    rw [e]; exact step_177 b cb pk g base M t f k w hm hk hC hp
  by_cases q2 : c = 2
  · subst q2; have e : stepV 2 k pk M = (⟨M.a, M.x, M.m.set (k % 16) M.a⟩, 0) := by simp [stepV]
    rw [e]; exact step_2 b cb pk g base M t f k w hm hk hM
  by_cases q3 : c = 3
  · subst q3; have e : stepV 3 k pk M = (⟨M.a, M.x, M.m.set (k % 16) M.x⟩, 0) := by simp [stepV]
    rw [e]; exact step_3 b cb pk g base M t f k w hm hk hM
  by_cases q132 : c = 132
  · subst q132; have e : stepV 132 k pk M = (⟨(4294967296 - M.a) % 4294967296, M.x, M.m⟩, 0) := by simp [stepV]
    rw [e]; exact step_132 b cb pk g base M t f k w hm hk hM
  by_cases q7 : c = 7
  · subst q7; have e : stepV 7 k pk M = (⟨M.a, M.a, M.m⟩, 0) := by simp [stepV]
    rw [e]; exact step_7 b cb pk g base M t f k w hm hk
  by_cases q135 : c = 135
  · subst q135; have e : stepV 135 k pk M = (⟨M.x, M.x, M.m⟩, 0) := by simp [stepV]
    rw [e]; exact step_135 b cb pk g base M t f k w hm hk
  have e : stepV c k pk M = (⟨(operV (bits .andNot .u16 c 8) M.a (sideV c k M.x)).1, M.x, M.m⟩, (operV (bits .andNot .u16 c 8) M.a (sideV c k M.x)).2) := by
    simp [stepV, q0, q32, q40, q48, q64, q72, q80, q96, q128, q1, q97, q129, q177, q2, q3, q132, q7, q135]
  rw [e]
  cases hb : byxB c with
  | true => exact step_op_true b cb pk g base M c t f k w hm hk hM hb (beq_no q0) (beq_no q32) (beq_no q40) (beq_no q48) (beq_no q64) (beq_no q72) (beq_no q80) (beq_no q96) (beq_no q128) (beq_no q1) (beq_no q97) (beq_no q129) (beq_no q177) (beq_no q2) (beq_no q3) (beq_no q132) (beq_no q7) (beq_no q135)
  | false => exact step_op_false b cb pk g base M c t f k w hm hk hM hb (beq_no q0) (beq_no q32) (beq_no q40) (beq_no q48) (beq_no q64) (beq_no q72) (beq_no q80) (beq_no q96) (beq_no q128) (beq_no q1) (beq_no q97) (beq_no q129) (beq_no q177) (beq_no q2) (beq_no q3) (beq_no q132) (beq_no q7) (beq_no q135)

end Go.Proofs.YtencoknpocipbaaGreat

namespace Go.Proofs.YtencoknpocipbaaGreat
open Go.RowKit
set_option maxRecDepth 100000

end Go.Proofs.YtencoknpocipbaaGreat

namespace Go.Proofs.YtencoknpocipbaaGreat
open Go.RowKit
set_option maxRecDepth 100000

theorem fault_safe15 {c : Int} {k : Nat} (h : faultV c k = 0) : knownB c = true ∧ (memB c = true → k < 16) := by
  unfold faultV at h
  split at h
  · simp at h
  · rename_i hk
    split at h
    · simp at h
    · rename_i hm
      refine ⟨by simpa using hk, fun hh => ?_⟩
      simp only [hh, Bool.true_and, decide_eq_true_eq] at hm
      omega

theorem leaves_ret {x : In} (h : leavesB x = false) (hk : knownB x.code.toNat = true) : (((x.code.toNat : Int) == 6) = false) ∧ ((x.code.toNat : Int) == 22) = false := by
  simp only [leavesB, classV, hk, if_true, Bool.or_eq_false_iff, beq_eq_false_iff_ne] at h
  constructor
  · rw [beq_eq_false_iff_ne]
    intro e
    rw [e] at h
    exact h.2 rfl
  · rw [beq_eq_false_iff_ne]
    intro e
    rw [e] at h
    exact h.2 rfl

def addC (j : Nat) (r : Mc × Int × Nat) : Mc × Int × Nat := (r.1, r.2.1, j + r.2.2)

theorem codeF_step {pk : List UInt8} {xs : List In} {j : Nat} (hj : j < xs.length) (M : Mc) : codeF pk (xs.drop j) M = if (stepV xs[j].code.toNat xs[j].k.toNat pk M).2 = 0 then addC 1 (codeF pk (xs.drop (j + 1)) (stepV xs[j].code.toNat xs[j].k.toNat pk M).1) else ((stepV xs[j].code.toNat xs[j].k.toNat pk M).1, (stepV xs[j].code.toNat xs[j].k.toNat pk M).2, 1) := by
  rw [List.drop_eq_getElem_cons hj, codeF]
  simp only [addC, Nat.add_comm 1]

theorem codeF_over {pk : List UInt8} {xs : List In} {j : Nat} (hj : ¬ j < xs.length) (M : Mc) : codeF pk (xs.drop j) M = (M, 0, 0) := by
  rw [List.drop_eq_nil_of_le (by omega), codeF]

theorem codeF_le {pk : List UInt8} : ∀ (xs : List In) (M : Mc), (codeF pk xs M).2.2 ≤ xs.length
  | [], _ => by simp [codeF]
  | x :: r, M => by
    have := codeF_le (pk := pk) r (stepV x.code.toNat x.k.toNat pk M).1
    rw [codeF]
    split
    · simp only [List.length_cons]
      omega
    · simp

theorem goG_eq {g : List Bk} {pk : List UInt8} {f k : Nat} {M : Mc} (hk : k < g.length) (r : Mc × Int × Nat) (hr : codeF pk g[k].code M = r) : goG g pk (f + 1) k M =
    if r.2.1 ≠ 0 then (0, r.2.1, r.2.2) else if g[k].en = 1 then (giveV g[k].last r.1, 0, r.2.2 + 1) else if g[k].en = 2 then addS r.2.2 (goG g pk f g[k].yes.toNat r.1)
    else addS (r.2.2 + 1) (goG g pk f (if asksV g[k].last r.1 = true then g[k].yes else g[k].no).toNat r.1) := by
  subst hr
  have e : g.getD k bk0 = g[k] := by rw [List.getD_eq_getElem?_getD, List.getElem?_eq_getElem hk]; rfl
  rw [goG, e]

theorem codeF_ok {pk : List UInt8} (hp : pk.length ≤ 4294967295) : ∀ (xs : List In) (M : Mc), M.ok → (codeF pk xs M).1.ok
  | [], _, h => h
  | x :: r, M, h => by
    have h1 : (stepV x.code.toNat x.k.toNat pk M).1.ok := stepV_ok h (by have := x.k.toNat_lt; omega) hp
    rw [codeF]
    split
    · exact codeF_ok hp r _ h1
    · exact h1

theorem codeLen_mono (g : List Bk) : ∀ {i j : Nat}, i ≤ j → codeLen (g.take i) ≤ codeLen (g.take j) := by
  intro i j h
  have := codeLen_take (g.take j) i
  rwa [List.take_take, Nat.min_eq_left h] at this

theorem codeLen_succ {g : List Bk} {k : Nat} (hk : k < g.length) : codeLen (g.take (k + 1)) = codeLen (g.take k) + g[k].code.length := by
  rw [← List.take_append_getElem hk, codeLen, codeLen, List.map_append, List.sum_append, List.map_cons, List.map_nil, List.sum_cons, List.sum_nil, Nat.add_zero]

theorem addS_addS (i j : Nat) (r : Nat × Int × Nat) : addS i (addS j r) = addS (i + j) r := by simp only [addS, Nat.add_assoc]

theorem uses_jump {c : Int} (h : usesJ c = true) : jumpB c = true := by
  simp only [usesJ, Bool.and_eq_true] at h
  exact h.2

theorem size35 : (Tryz.prog.info? 35).map (·.size) = some 3 := by kernel_rfl

abbrev verA (v : Nat) (f : Int) (s : Nat) : Array Value := #[.int .u32 (v : Int), .int .i64 f, .int .i64 (s : Int)]

/-- What a run through a graph ends with. -/
def GEnd (w : World) (r : Nat × Int × Nat) (E : Int) (e : Ending) (w' : World) : Prop := e = .returned (.tuple #[.agg #[.int .u32 (r.1 : Int), .int .i64 r.2.1, .int .i64 (r.2.2 : Int)], .int .i64 E]) ∧ w.grownBy w' none

end Go.Proofs.YtencoknpocipbaaGreat

namespace Go.Proofs.YtencoknpocipbaaGreat
open Go.RowKit
set_option maxRecDepth 100000

theorem give_ret {x : In} (M : Mc) (h : (classV x.code.toNat == 6) = true) : giveV x M = if ((x.code.toNat : Int) == 6) = true then x.k.toNat else M.a := by
  rw [class6_ret] at h
  simp only [retB, Bool.or_eq_true, beq_iff_eq] at h
  rw [giveV]
  rcases h with h | h
  · rw [h]
    rfl
  · rw [h]
    rfl

/-- What lies in memory while the document's own run goes on. -/
structure GsI (w wr : World) (V g : Nat) (M : Mc) : Prop where
  ver : GVt wr V 35 #[.int .u32 0, .int .i64 0, .int .i64 0]
  mach : MAt wr 90 w.heap.size g M
  up : w.grownBy wr none
  ne : V ≠ g
  ok : M.ok

theorem GsI.kept {w wr w' : World} {V g : Nat} {M : Mc} (I : GsI w wr V g M) (K : wr.grownBy w' none) : GsI w w' V g M :=
  ⟨I.ver.kept K, I.mach.kept K (by simp), grown_trans I.up K, I.ne, I.ok⟩
theorem GsI.stepped {w wr w' : World} {V g : Nat} {M M2 : Mc} (I : GsI w wr V g M) (h : MAt w' 90 w.heap.size g M2) (K : wr.grownBy w' (some g)) (h2 : M2.ok) : GsI w w' V g M2 :=
  ⟨I.ver.grown K (by simpa using Ne.symm I.ne), h, grown_trans_new I.up K (fun x e => by cases e; exact I.mach.lt.1), I.ne, h2⟩

end Go.Proofs.YtencoknpocipbaaGreat

namespace Go.Proofs.YtencoknpocipbaaGreat
open Go.RowKit
set_option maxRecDepth 100000

theorem getD_set_b (bs : List Bool) (i j : Nat) (v : Bool) : (bs.set i v).getD j false = if i = j ∧ j < bs.length then v else bs.getD j false := by
  rw [List.getD_eq_getElem?_getD, List.getElem?_set, List.getD_eq_getElem?_getD]
  by_cases h : i = j
  · subst h
    by_cases hl : i < bs.length
    · simp [hl]
    · simp [hl]
  · simp [h]
/-- What holds while blocks are marked: the marks, those that are left to look at, the one that is looked at. -/
structure CmI (g : List Bk) (bs : List Bool) (ls : List Nat) (cur : Option Nat) : Prop where
  len : bs.length = g.length
  good : ∀ i, bs.getD i false = true → Come g i
  lst : ∀ i ∈ ls, Come g i
  now : ∀ c, cur = some c → Come g c
  zero : bs.getD 0 false = true ∨ 0 ∈ ls ∨ cur = some 0
  clos : ∀ i (hi : i < g.length), bs.getD i false = true → ∀ j ∈ nextL g[i], bs.getD j false = true ∨ j ∈ ls ∨ cur = some j

theorem CmI.first {g : List Bk} : CmI g (List.replicate g.length false) [0] none := by
  have hf : ∀ i, (List.replicate g.length false).getD i false = false := fun i => by
    rw [List.getD_eq_getElem?_getD, List.getElem?_replicate]
    split <;> rfl
  exact ⟨by simp, fun i h => (by rw [hf] at h; cases h), fun i hi => (by simp at hi; rw [hi]; exact .first), fun c h => (by cases h), .inr (.inl (by simp)), fun i _ h => (by rw [hf] at h; cases h)⟩
theorem CmI.pop {g : List Bk} {bs : List Bool} {ls : List Nat} {c : Nat} (h : CmI g bs (ls ++ [c]) none) : CmI g bs ls (some c) := by
  refine ⟨h.len, h.good, fun i hi => h.lst i (by simp [hi]), fun d hd => ?_, ?_, fun i hi hb j hj => ?_⟩
  · cases hd
    exact h.lst c (by simp)
  · rcases h.zero with e | e | e
    · exact .inl e
    · rcases List.mem_append.1 e with e | e
      · exact .inr (.inl e)
      · exact .inr (.inr (by simp at e; rw [e]))
    · cases e
  · rcases h.clos i hi hb j hj with e | e | e
    · exact .inl e
    · rcases List.mem_append.1 e with e | e
      · exact .inr (.inl e)
      · exact .inr (.inr (by simp at e; rw [e]))
    · cases e
theorem CmI.drop {g : List Bk} {bs : List Bool} {ls : List Nat} {c : Nat} (h : CmI g bs ls (some c)) (hc : bs.getD c false = true) : CmI g bs ls none := by
  refine ⟨h.len, h.good, h.lst, fun d hd => (by cases hd), ?_, fun i hi hb j hj => ?_⟩
  · rcases h.zero with e | e | e
    · exact .inl e
    · exact .inr (.inl e)
    · cases e
      exact .inl hc
  · rcases h.clos i hi hb j hj with e | e | e
    · exact .inl e
    · exact .inr (.inl e)
    · cases e
      exact .inl hc
/-- A block is marked; what follows on it is left to look at. -/
theorem CmI.mark {g : List Bk} {bs : List Bool} {ls ls' : List Nat} {cur' : Option Nat} {c : Nat} (h : CmI g bs ls (some c)) (hc : c < g.length) (hl : ∀ i, i ∈ ls' ↔ (i ∈ ls ∨ (i ∈ ls' ∧ i ∈ nextL g[c]))) (hsub : ∀ i ∈ ls, i ∈ ls') (hcur : ∀ d, cur' = some d → d ∈ nextL g[c])
    (hall : ∀ j ∈ nextL g[c], j ∈ ls' ∨ cur' = some j) : CmI g (bs.set c true) ls' cur' := by
  have hcc := h.now c rfl
  have hnx : ∀ j ∈ nextL g[c], Come g j := fun j hj => .next hcc hc hj
  have hlen := h.len
  have hm : ∀ j, bs.getD j false = true → (bs.set c true).getD j false = true := fun j hj => by
    rw [getD_set_b]
    split
    · rfl
    · exact hj
  have hself : (bs.set c true).getD c false = true := by
    rw [getD_set_b, if_pos ⟨rfl, by omega⟩]
  refine ⟨by rw [List.length_set]; exact hlen, fun i hi => ?_, fun i hi => ?_, fun d hd => hnx d (hcur d hd), ?_, fun i hi hb j hj => ?_⟩
  · rw [getD_set_b] at hi
    split at hi
    · rename_i hh
      rw [← hh.1]
      exact hcc
    · exact h.good i hi
  · rcases (hl i).1 hi with e | ⟨-, e⟩
    · exact h.lst i e
    · exact hnx i e
  · rcases h.zero with e | e | e
    · exact .inl (hm 0 e)
    · exact .inr (.inl (hsub 0 e))
    · cases e
      exact .inl hself
  · by_cases hic : i = c
    · subst hic
      rcases hall j hj with e | e
      · exact .inr (.inl e)
      · exact .inr (.inr e)
    · rw [getD_set_b, if_neg (fun hh => hic hh.1.symm)] at hb
      rcases h.clos i hi hb j hj with e | e | e
      · exact .inl (hm j e)
      · exact .inr (.inl (hsub j e))
      · cases e
        exact .inl hself
theorem CmI.over {g : List Bk} {bs : List Bool} (h : CmI g bs [] none) : bs.length = g.length ∧ ∀ i, bs.getD i false = true ↔ Come g i := by
  refine ⟨h.len, fun i => ⟨h.good i, fun hc => ?_⟩⟩
  induction hc with
  | first =>
    rcases h.zero with e | e | e
    · exact e
    · cases e
    · cases e
  | next _ hi hj ih =>
    rcases h.clos _ hi ih _ hj with e | e | e
    · exact e
    · cases e
    · cases e

/-- Two rows of marks that say the same are one. -/
theorem marks_eq {g : List Bk} {bs cs : List Bool} (h1 : bs.length = g.length ∧ ∀ i, bs.getD i false = true ↔ Come g i) (h2 : cs.length = g.length ∧ ∀ i, cs.getD i false = true ↔ Come g i) : bs = cs := by
  apply List.ext_getElem
  · rw [h1.1, h2.1]
  · intro i hi hj
    have e := (h1.2 i).trans (h2.2 i).symm
    rw [List.getD_eq_getElem?_getD, List.getD_eq_getElem?_getD, List.getElem?_eq_getElem hi, List.getElem?_eq_getElem hj] at e
    simp only [Option.getD_some] at e
    exact Bool.eq_iff_iff.2 e

/-- How many are not marked yet. -/
def unm (bs : List Bool) : Nat → Nat
  | 0 => 0
  | n + 1 => unm bs n + (if bs.getD n false = true then 0 else 1)
theorem unm_set_ge {bs : List Bool} {c : Nat} : ∀ {n : Nat}, n ≤ c → unm (bs.set c true) n = unm bs n
  | 0, _ => rfl
  | n + 1, h => by 
    have e : ¬ (c = n ∧ n < bs.length) := by omega
    rw [unm, unm, unm_set_ge (by omega), getD_set_b, if_neg e]
theorem unm_set {bs : List Bool} {c : Nat} (hc : bs.getD c false = false) (hl : c < bs.length) : ∀ {n : Nat}, c < n → unm (bs.set c true) n + 1 = unm bs n
  | 0, h => absurd h (by omega)
  | n + 1, h => by
    rw [unm, unm]
    by_cases hcn : c = n
    · subst hcn
      have e : (bs.set c true).getD c false = true := by rw [getD_set_b, if_pos (show c = c ∧ c < bs.length from ⟨rfl, hl⟩)]
      rw [unm_set_ge (Nat.le_refl _), e, hc]
      simp
    · have := unm_set hc hl (n := n) (by omega)
      have e : (bs.set c true).getD n false = bs.getD n false := by rw [getD_set_b, if_neg (show ¬ (c = n ∧ n < bs.length) by omega)]
      rw [e]
      omega
theorem unm_le (bs : List Bool) (n : Nat) : unm bs n ≤ n := by
  induction n with
  | zero => exact Nat.le_refl _
  | succ n ih =>
    rw [unm]
    split <;> omega
def unmW (gb : Nat) (w : World) : Nat → Nat
  | 0 => 0
  | n + 1 => unmW gb w n + (match w.cell? ⟨gb, n, none⟩ with
    | some (.bool false) => 1
    | _ => 0)
theorem unmW_eq {gb : Nat} {w : World} {bs : List Bool} : ∀ {n : Nat}, (∀ i, i < n → w.cell? ⟨gb, i, none⟩ = some (.bool (bs.getD i false))) → unmW gb w n = unm bs n
  | 0, _ => rfl
  | n + 1, h => by
    rw [unmW, unm, unmW_eq (fun i hi => h i (by omega)), h n (by omega)]
    cases bs.getD n false <;> rfl

/-- The document's own way: from the first on. -/
def reachGTo (g : List Bk) : Nat → List Bool
  | 0 => (List.replicate g.length false).set 0 true
  | k + 1 => if (reachGTo g k).getD k false = true then (nextL (g.getD k bk0)).foldl (fun bs j => bs.set j true) (reachGTo g k) else reachGTo g k
theorem fold_len (ls : List Nat) : ∀ bs : List Bool, (ls.foldl (fun bs j => bs.set j true) bs).length = bs.length := by
  induction ls with
  | nil => intro bs; rfl
  | cons j r ih => intro bs; rw [List.foldl_cons, ih, List.length_set]
theorem fold_get (ls : List Nat) : ∀ (bs : List Bool) (i : Nat), (ls.foldl (fun bs j => bs.set j true) bs).getD i false = true ↔ (bs.getD i false = true ∨ (i ∈ ls ∧ i < bs.length)) := by
  induction ls with
  | nil => intro bs i; simp
  | cons j r ih =>
    intro bs i
    rw [List.foldl_cons, ih, getD_set_b, List.length_set]
    by_cases h : j = i
    · subst h
      by_cases hl : j < bs.length
      · simp [hl]
      · simp [hl]
    · simp [h, Ne.symm h]
theorem reachG_len (g : List Bk) (k : Nat) : (reachGTo g k).length = g.length := by
  induction k with
  | zero => simp [reachGTo]
  | succ k ih =>
    rw [reachGTo]
    split
    · rw [fold_len, ih]
    · exact ih
theorem reachG_mono (g : List Bk) {k m : Nat} (h : k ≤ m) : ∀ i, (reachGTo g k).getD i false = true → (reachGTo g m).getD i false = true := by
  induction m with
  | zero => intro i hi; have : k = 0 := by omega
            subst this; exact hi
  | succ m ih =>
    intro i hi
    by_cases hk : k = m + 1
    · subst hk; exact hi
    · have := ih (by omega) i hi
      rw [reachGTo]
      split
      · rw [fold_get]; exact .inl this
      · exact this
theorem reachG_at {g : List Bk} {k : Nat} (hk : k < g.length) : g.getD k bk0 = g[k] := by rw [List.getD_eq_getElem?_getD, List.getElem?_eq_getElem hk]; rfl
theorem reachG_good {g : List Bk} : ∀ {k : Nat}, k ≤ g.length → ∀ i, (reachGTo g k).getD i false = true → Come g i
  | 0, _, i, h => by
    rw [reachGTo, getD_set_b] at h
    split at h
    · rename_i hh
      rw [← hh.1]
      exact .first
    · rw [List.getD_eq_getElem?_getD, List.getElem?_replicate] at h
      split at h <;> cases h
  | k + 1, hk, i, h => by
    rw [reachGTo] at h
    split at h
    · rename_i hb
      rw [fold_get] at h
      rcases h with h | ⟨h, -⟩
      · exact reachG_good (by omega) i h
      · rw [reachG_at (by omega)] at h
        exact .next (reachG_good (by omega) k hb) (by omega) h
    · exact reachG_good (by omega) i h
/-- Marks below the place that is looked at stay as they are. -/
theorem reachG_low {g : List Bk} (T : TakenG g) {k : Nat} (hk : k < g.length) {m : Nat} (hm : k ≤ m) (hmn : m ≤ g.length) : ∀ i, i ≤ k → (reachGTo g m).getD i false = true → (reachGTo g k).getD i false = true := by
  induction m with
  | zero => intro i _ h; have : k = 0 := by omega
            subst this; exact h
  | succ m ih =>
    intro i hi h
    by_cases hkm : k = m + 1
    · subst hkm; exact h
    · refine ih (by omega) (by omega) i hi ?_
      rw [reachGTo] at h
      split at h
      · rw [fold_get] at h
        rcases h with h | ⟨h, -⟩
        · exact h
        · rw [reachG_at (by omega)] at h
          have := (leads_next (T.ok m (by omega)).2.1 (T.ok m (by omega)).2.2 i h).1
          omega
      · exact h
theorem reachG_all {g : List Bk} (T : TakenG g) : (reachGTo g g.length).length = g.length ∧ ∀ i, (reachGTo g g.length).getD i false = true ↔ Come g i := by
  refine ⟨reachG_len _ _, fun i => ⟨reachG_good (Nat.le_refl _) i, fun hc => ?_⟩⟩
  induction hc with
  | first =>
    refine reachG_mono g (Nat.zero_le _) 0 ?_
    rw [reachGTo, getD_set_b, if_pos ⟨rfl, by simp; exact T.pos⟩]
  | @next i j _ hi hj ih =>
    have h1 := reachG_low T hi (Nat.le_of_lt hi) (Nat.le_refl _) i (Nat.le_refl _) ih
    refine reachG_mono g (show i + 1 ≤ g.length by omega) j ?_
    rw [reachGTo, if_pos h1, fold_get]
    refine .inr ⟨by rw [reachG_at hi]; exact hj, ?_⟩
    rw [reachG_len]
    exact (leads_next (T.ok i hi).2.1 (T.ok i hi).2.2 j hj).2
/-- P15.3. -/
def reachG (g : List Bk) : List Bool := if (gckG g).2 = 0 then reachGTo g g.length else []

end Go.Proofs.YtencoknpocipbaaGreat
