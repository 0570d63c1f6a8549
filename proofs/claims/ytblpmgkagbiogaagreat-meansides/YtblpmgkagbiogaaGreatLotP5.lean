/-
  What chapter 11 says of a source's tree: no Go text here. The document's own Split, group, groups, gap. Arrays of bytes in a block; the document's own groups, Parse4, Print4. Arrays of bytes held against each other.
-/
import Derived.Test.YtblpmgkagbiogaaGreatLotP3
import Derived.Test.YtblpmgkagbiogaaGreatAddrV
import Derived.Laws.Rows
import Derived.Laws.ResultCell
import Derived.Deep.DeepCutAuto
import Derived.ChangeKeysEq
namespace Go.Proofs.YtblpmgkagbiogaaGreat
open Go.RowKit
set_option maxRecDepth 100000

structure Nd where
  kind : Nat
  op : Nat
  n : Nat
  m : Nat
  size : Nat
  of : Nat
  side : Nat
  addr : List UInt8
  bits : Nat

def nd0 : Nd := ⟨0, 0, 0, 0, 0, 0, 0, List.replicate 16 0, 0⟩
def ndK (k : Nat) : Nd := { nd0 with kind := k }

abbrev Er := Nat × Int
/-- Nodes with their places, and the tokens that are left. -/
abbrev Out := Except Er (List (Nd × Nat) × List Tk)

def thenE {α β : Type} (x : Except Er α) (f : α → Except Er β) : Except Er β := match x with
  | .error e => .error e
  | .ok y => f y
theorem thenE_ok {α β : Type} (y : α) (f : α → Except Er β) : thenE (.ok y) f = f y := rfl
theorem thenE_er {α β : Type} (e : Er) (f : α → Except Er β) : thenE (.error e : Except Er α) f = .error e := rfl

def hdT (ts : List Tk) : Tk := ts.headD ⟨0, 0, [], 0⟩
def isB (ts : List Tk) (x : List UInt8) : Bool := ((hdT ts).kind == 5 || (hdT ts).kind == 2) && (hdT ts).text == x
def failV {α : Type} (ts : List Tk) (e : Int) : Except Er α := .error ((hdT ts).pos, if (hdT ts).kind = 0 then 110 else e)
def mustV (x : List UInt8) (ts : List Tk) : Except Er (List Tk) := if isB ts x = true then .ok ts.tail else failV ts 111
def numT (ts : List Tk) : Except Er (Nat × List Tk) := if (hdT ts).kind = 1 then .ok ((hdT ts).num, ts.tail) else failV ts 111
def opnV {α : Type} (nest : Nat) (ts : List Tk) (x : Except Er α) : Except Er α := if nest = 200 then .error ((hdT ts).pos, 113) else x

def wNot : List UInt8 := [110, 111, 116]
def wAnd : List UInt8 := [97, 110, 100]
def wOr : List UInt8 := [111, 114]
def wSrc : List UInt8 := [115, 114, 99]
def wDst : List UInt8 := [100, 115, 116]
def wHost : List UInt8 := [104, 111, 115, 116]
def wNet : List UInt8 := [110, 101, 116]
def wPort : List UInt8 := [112, 111, 114, 116]
def wPortrange : List UInt8 := [112, 111, 114, 116, 114, 97, 110, 103, 101]
def wProto : List UInt8 := [112, 114, 111, 116, 111]
def wLen : List UInt8 := [108, 101, 110]
def wInbound : List UInt8 := [105, 110, 98, 111, 117, 110, 100]
def wOutbound : List UInt8 := [111, 117, 116, 98, 111, 117, 110, 100]

/-- The operation of a comparison's sign; none: it is no such sign. -/
def relV (x : List UInt8) : Option Nat :=
  if x = [61] ∨ x = [61, 61] then some 1 else if x = [33, 61] then some 2 else if x = [60] then some 3 else if x = [60, 61] then some 4 else if x = [62] then some 5 else if x = [62, 61] then some 6 else none
/-- The node of a sign or word in a row of the grammar. -/
def binV (k : Nat) (x : List UInt8) : Option Nd :=
  if k = 1 then (if x = wOr ∨ x = [124, 124] then some (ndK 8) else none)
  else if k = 2 then (if x = wAnd ∨ x = [38, 38] then some (ndK 7) else none)
  else if k = 4 then (relV x).map fun o => { ndK 6 with op := o }
  else if k = 5 then (if x = [124] then some { ndK 4 with op := 7 } else none)
  else if k = 6 then (if x = [94] then some { ndK 4 with op := 8 } else none)
  else if k = 7 then (if x = [38] then some { ndK 4 with op := 6 } else none)
  else if k = 8 then (if x = [60, 60] then some { ndK 4 with op := 9 } else if x = [62, 62] then some { ndK 4 with op := 10 } else none)
  else if k = 9 then (if x = [43] then some { ndK 4 with op := 1 } else if x = [45] then some { ndK 4 with op := 2 } else none)
  else if k = 10 then (if x = [42] then some { ndK 4 with op := 3 } else if x = [47] then some { ndK 4 with op := 4 } else if x = [37] then some { ndK 4 with op := 5 } else none)
  else none
/-- What a name speaks of; 0: it is none. -/
def nameN (x : List UInt8) : Nat :=
  if x = [112, 112, 112] then 1 else if x = [105, 112] then 2 else if x = [105, 112, 54] then 3 else if x = [116, 99, 112] then 4 else if x = [117, 100, 112] then 5
  else if x = [105, 99, 109, 112] then 6 else if x = [105, 99, 109, 112, 54] then 7 else if x = [108, 99, 112] then 8 else if x = [112, 97, 112] then 9 else if x = [99, 104, 97, 112] then 10
  else if x = [105, 112, 99, 112] then 11 else if x = [105, 112, 54, 99, 112] then 12 else if x = [109, 112] then 13 else 0

def addrT (kind : Nat) (ts : List Tk) : Except Er (Nd × List Tk) :=
  if (hdT ts).kind = 3 then (match parse4V (hdT ts).text with
    | some a => .ok ({ ndK kind with of := 2, addr := a ++ List.replicate 12 0 }, ts.tail)
    | none => failV ts 112)
  else if (hdT ts).kind = 4 then (match parse6V (hdT ts).text with
    | some a => .ok ({ ndK kind with of := 3, addr := a }, ts.tail)
    | none => failV ts 112)
  else failV ts 111
def sideN (ts : List Tk) : Nat := if isB ts wSrc = true then 1 else if isB ts wDst = true then 2 else 0
def sideR (ts : List Tk) : List Tk := if sideN ts = 0 then ts else ts.tail
/-- Behind a side. -/
def sidedB (of at' side : Nat) (ts : List Tk) : Out :=
  if isB ts wPort = true then thenE (numT ts.tail) fun p => .ok ([({ ndK 16 with of := of, side := side, n := p.1, m := p.1 }, at')], p.2)
  else if isB ts wPortrange = true then thenE (numT ts.tail) fun p => thenE (mustV [45] p.2) fun r => thenE (numT r) fun q => .ok ([({ ndK 16 with of := of, side := side, n := p.1, m := q.1 }, at')], q.2)
  else if of = 0 ∧ isB ts wHost = true then thenE (addrT 14 ts.tail) fun p => .ok ([({ p.1 with side := side }, at')], p.2)
  else if of = 0 ∧ isB ts wNet = true then thenE (addrT 15 ts.tail) fun p => thenE (mustV [47] p.2) fun r => thenE (numT r) fun q => .ok ([({ p.1 with bits := q.1, side := side }, at')], q.2)
  else failV ts 111
def sidedV (of at' : Nat) (ts : List Tk) : Out := sidedB of at' (sideN ts) (sideR ts)
/-- What begins with a word that is no name. -/
def wordF (ts : List Tk) : Out :=
  if (hdT ts).text = wLen then .ok ([(ndK 2, (hdT ts).pos)], ts.tail)
  else if (hdT ts).text = wInbound then .ok ([({ ndK 10 with side := 1 }, (hdT ts).pos)], ts.tail)
  else if (hdT ts).text = wOutbound then .ok ([({ ndK 10 with side := 2 }, (hdT ts).pos)], ts.tail)
  else if (hdT ts).text = wProto then thenE (numT ts.tail) fun p => .ok ([({ ndK 12 with n := p.1 }, (hdT ts).pos)], p.2)
  else if (hdT ts).text ∈ [wSrc, wDst, wHost, wNet, wPort, wPortrange] then sidedV 0 (hdT ts).pos ts
  else failV ts 111
/-- A load's size, and its end. -/
def sizeF (ts : List Tk) : Except Er (Nat × List Tk) :=
  if isB ts [58] = true then thenE (numT ts.tail) fun p => thenE (mustV [93] p.2) fun r => .ok (p.1, r)
  else thenE (mustV [93] ts) fun r => .ok (1, r)
/-- What begins with a name that is gone by. -/
def nameF (rec : Nat → List Tk → Out) (nest of at' : Nat) (ts : List Tk) : Out :=
  if isB ts [91] = true ∧ of ≠ 13 then opnV nest ts (thenE (rec (nest + 1) ts.tail) fun p => thenE (sizeF p.2) fun q => .ok (p.1 ++ [({ ndK 3 with of := of, size := q.1 }, at')], q.2))
  else if of = 1 then failV ts 111
  else if (of = 2 ∨ of = 3) ∧ isB ts wProto = true then thenE (numT ts.tail) fun p => .ok ([({ ndK 13 with of := of, n := p.1 }, at')], p.2)
  else if (of = 4 ∨ of = 5) ∧ (isB ts wSrc = true ∨ isB ts wDst = true ∨ isB ts wPort = true ∨ isB ts wPortrange = true) then sidedV of at' ts
  else .ok ([({ ndK 11 with of := of }, at')], ts)
/-- A part. -/
def partF (rec : Nat → List Tk → Out) (nest : Nat) (ts : List Tk) : Out :=
  if (hdT ts).kind = 1 then .ok ([({ ndK 1 with n := (hdT ts).num }, (hdT ts).pos)], ts.tail)
  else if isB ts [40] = true then opnV nest ts (thenE (rec (nest + 1) ts.tail) fun p => thenE (mustV [41] p.2) fun r => .ok (p.1, r))
  else if (hdT ts).kind ≠ 2 then failV ts 111
  else if nameN (hdT ts).text ≠ 0 then nameF rec nest (nameN (hdT ts).text) (hdT ts).pos ts.tail
  else wordF ts
/-- The node of a row's sign, if one is reached. -/
def opT (k : Nat) (ts : List Tk) : Option Nd := if (hdT ts).kind = 5 ∨ (hdT ts).kind = 2 then binV k (hdT ts).text else none
/-- Behind the first part of a row: the others. -/
def loopG (rec : List Tk → Out) (k : Nat) : Nat → List (Nd × Nat) → List Tk → Out
  | 0, ns, ts => .ok (ns, ts)
  | f + 1, ns, ts => match opT k ts with
    | none => .ok (ns, ts)
    | some nd => thenE (rec ts.tail) fun p => if k = 4 then .ok (ns ++ p.1 ++ [(nd, (hdT ts).pos)], p.2) else loopG rec k f (ns ++ p.1 ++ [(nd, (hdT ts).pos)]) p.2
/-- A row of the grammar, 1 to 12, over what reads the rows below it. -/
def stepR (rec : Nat → Nat → List Tk → Out) (k nest : Nat) (ts : List Tk) : Out :=
  if k = 3 ∧ (isB ts wNot = true ∨ isB ts [33] = true) then opnV nest ts (thenE (rec 3 (nest + 1) ts.tail) fun p => .ok (p.1 ++ [(ndK 9, (hdT ts).pos)], p.2))
  else if k = 11 ∧ isB ts [45] = true then opnV nest ts (thenE (rec 11 (nest + 1) ts.tail) fun p => .ok (p.1 ++ [(ndK 5, (hdT ts).pos)], p.2))
  else if k = 3 ∨ k = 11 then rec (k + 1) nest ts
  else if k = 12 then partF (rec 1) nest ts
  else thenE (rec (k + 1) nest ts) fun p => loopG (rec (k + 1) nest) k p.2.length p.1 p.2
def rowF : Nat → Nat → Nat → List Tk → Out
  | 0 => fun _ _ _ => .error (0, 0)
  | f + 1 => stepR (rowF f)
theorem row_succ (f k nest : Nat) (ts : List Tk) : rowF (f + 1) k nest ts = stepR (rowF f) k nest ts := rfl
def needF (k : Nat) (ts : List Tk) : Nat := 13 * ts.length + (13 - k)
/-- P11.1, of tokens. -/
def parseT (ts : List Tk) : Except Er (List (Nd × Nat)) := thenE (rowF (needF 1 ts) 1 0 ts) fun p => if (hdT p.2).kind = 0 then .ok p.1 else failV p.2 111
/-- P11.1. -/
def parseV (s : List UInt8) : Except Er (List (Nd × Nat)) := thenE (lexV s) parseT

end Go.Proofs.YtblpmgkagbiogaaGreat

namespace Go.Proofs.YtblpmgkagbiogaaGreat
open Go.RowKit
set_option maxRecDepth 100000

theorem hexFrom_lt (s : List UInt8) (v n : Nat) (h : hexFrom v s = some n) : n < (v + 1) * 16 ^ s.length := by
  induction s generalizing v with
  | nil => simp [hexFrom] at h; subst h; simp
  | cons c r ih =>
    rw [hexFrom] at h
    split at h
    · have h1 := ih _ h
      have h2 := digV_lt c.toNat
      have h3 : (16 * v + digV c.toNat + 1) * 16 ^ r.length ≤ (16 * (v + 1)) * 16 ^ r.length := Nat.mul_le_mul_right _ (by omega)
      rw [List.length_cons, Nat.pow_succ, Nat.mul_comm (16 ^ r.length) 16, ← Nat.mul_assoc, Nat.mul_comm (v + 1) 16]
      omega
    · cases h
theorem group_lt {s : List UInt8} {n : Nat} (h : groupV s = some n) : n < 65536 := by
  unfold groupV at h
  split at h
  · cases h
  · have h1 := hexFrom_lt s 0 n h
    have h2 : 16 ^ s.length ≤ 16 ^ 4 := Nat.pow_le_pow_right (by decide) (by omega)
    omega

/-- Where the first '::' is, from a place on. -/
theorem gapV_two (a : UInt8) (r : List UInt8) : gapV (a :: r) = if a = 58 ∧ r.head? = some 58 then some 0 else (gapV r).map fun k => k + 1 := rfl
def gapI : Option Nat → Int
  | none => -1
  | some k => k

theorem info3 : (Tryz.prog.info? 3).map (fun i => (i.zero, i.size, i.bytes)) = some (some (.int .i64 0), 1, 8) := by kernel_rfl

/-- A row of numbers. -/
def gv (n : Nat) : Value := .int .i64 (n : Int)
abbrev GOwns (w : World) (base : Nat) (v : Value) (ns : List Nat) : Prop := w.ownsRow base 3 1 v ns.length (ns.map gv)

theorem CV.strs {w : World} {ao : Option Addr} {ls : List (List UInt8)} (h : CV w ao (ls.map str)) {k : Nat} (hk : k < ls.length) :
    ∃ b off, ao = some ⟨b, off, none⟩ ∧ ∀ i (hi : i < ls.length), w.cell? ⟨b, off + i, none⟩ = some (str ls[i]) := by
  obtain ⟨b, off, hao, hc⟩ := h.addr (k := k) (by simpa using hk)
  exact ⟨b, off, hao, fun i hi => by rw [hc i (by simpa using hi)]; simp⟩

theorem CV.nums {w : World} {ao : Option Addr} {ns : List Nat} (h : CV w ao (ns.map gv)) {k : Nat} (hk : k < ns.length) :
    ∃ b off, ao = some ⟨b, off, none⟩ ∧ ∀ i (hi : i < ns.length), w.cell? ⟨b, off + i, none⟩ = some (.int .i64 (ns[i] : Int)) := by
  obtain ⟨b, off, hao, hc⟩ := h.addr (k := k) (by simpa using hk)
  exact ⟨b, off, hao, fun i hi => by rw [hc i (by simpa using hi)]; simp [gv]⟩

end Go.Proofs.YtblpmgkagbiogaaGreat

namespace Go.Proofs.YtblpmgkagbiogaaGreat
open Go.RowKit
set_option maxRecDepth 100000

/-- An array of bytes lies in a block of its own. -/
def AAt (w : World) (g t : Nat) (xs : List UInt8) : Prop := w.heap[g]? = some (.cells (xs.map bv).toArray t (0, 0))
theorem AAt.cell {w : World} {g t : Nat} {xs : List UInt8} (h : AAt w g t xs) {i : Nat} (hi : i < xs.length) : w.cell? ⟨g, i, none⟩ = some (.int .u8 (xs[i].toNat : Int)) := by
  unfold AAt at h
  rw [cell_of_row w g i _ t (0, 0) h]
  simp [hi, bv]
theorem AAt.free {w : World} {g t : Nat} {xs : List UInt8} (h : AAt w g t xs) (i : Nat) : w.frozen? ⟨g, i, none⟩ = false := by
  unfold AAt at h
  simp [World.frozen?, h]
theorem AAt.lt {w : World} {g t : Nat} {xs : List UInt8} (h : AAt w g t xs) : g < w.heap.size := by
  unfold AAt at h
  by_cases hb : g < w.heap.size
  · exact hb
  · rw [Array.getElem?_eq_none (by omega)] at h; cases h
theorem AAt.grown {w w' : World} {g t : Nat} {xs : List UInt8} {row : Option Nat} (h : AAt w g t xs) (G : w.grownBy w' row) (hr : row ≠ some g) : AAt w' g t xs := by
  have := G.block g h.lt (Ne.symm hr)
  unfold AAt at *
  rw [this, h]
theorem AAt.set {w : World} {g t : Nat} {xs : List UInt8} (h : AAt w g t xs) (i n : Nat) (hn : n < 256) : AAt (w.setCell ⟨g, i, none⟩ (.int .u8 (n : Int))) g t (xs.set i (UInt8.ofNat n)) := by
  unfold AAt at *
  have e : bv (UInt8.ofNat n) = .int .u8 (n : Int) := by
    unfold bv
    rw [UInt8.toNat_ofNat_of_lt' (by simpa using hn)]
  simp only [World.setCell, Array.getElem?_modify, h, if_true, Option.map_some]
  rw [List.map_set, e]
  simp
theorem AAt.alloc (w : World) (t : Nat) (xs : List UInt8) : AAt (w.alloc (.cells (xs.map bv).toArray t)) w.heap.size t xs := heap_alloc_new w _
theorem AAt.drew {w : World} {g t : Nat} {xs : List UInt8} (h : AAt w g t xs) : AAt w.drew g t xs := h
theorem AAt.setRow {w : World} {g t : Nat} {xs : List UInt8} (h : AAt w g t xs) (ys : List UInt8) : AAt (w.setRow g (ys.map bv).toArray) g t ys := by
  unfold AAt at *
  exact setRow_heap w g _ _ t _ h
theorem heap_setRow_ne (w : World) (g k : Nat) (cs : Array Value) (h : k ≠ g) : (w.setRow g cs).heap[k]? = w.heap[k]? := by
  simp [World.setRow, Array.getElem?_modify, Ne.symm h]
theorem grown_setRow {w W : World} {row : Option Nat} (G : w.grownBy W row) (g : Nat) (cs : Array Value) (hg : row = some g ∨ w.heap.size ≤ g) : w.grownBy (W.setRow g cs) row := by
  refine ⟨G.os, G.tape, G.output, by rw [setRow_size]; exact G.size, fun i hi hr => ?_⟩
  have : i ≠ g := by
    rintro rfl
    rcases hg with hg | hg
    · exact hr hg.symm
    · omega
  rw [heap_setRow_ne _ _ _ _ this]
  exact G.block i hi hr
theorem AAt.other {w : World} {g t k : Nat} {xs : List UInt8} (h : AAt w g t xs) (cs : Array Value) (hk : g ≠ k) : AAt (w.setRow k cs) g t xs := by
  unfold AAt at *
  rw [heap_setRow_ne _ _ _ _ hk]
  exact h
theorem AAt.setOther {w : World} {g t k i : Nat} {xs : List UInt8} (h : AAt w g t xs) (u : Value) (hk : g ≠ k) : AAt (w.setCell ⟨k, i, none⟩ u) g t xs := by
  unfold AAt at *
  simp only [World.setCell, Array.getElem?_modify, if_neg (Ne.symm hk)]
  exact h
theorem bv_all (xs : List UInt8) : (xs.map bv).toArray.all (·.oneCell') = true := by
  rw [Array.all_eq_true_iff_forall_mem]
  intro v hv
  exact bv_one xs v (by simpa using hv)
theorem bv_size (xs : List UInt8) : (xs.map bv).toArray.size = xs.length := by simp

/-- How long a text is. -/
def strLen : Value → Nat
  | .string s => s.size
  | _ => 0

/-- The answer of a reading: an array, and an error. -/
def arrV (n : Nat) (r : Option (List UInt8)) : Value := .agg ((r.getD (List.replicate n 0)).map bv).toArray
def errV (r : Option (List UInt8)) : Int := if r.isSome = true then 0 else 60

/-- A result array that lies in a block, and a second result. -/
theorem ret_arr {P : Program} {fn : Func} {p u : Tmp} {ty : TypeId} (h : fn.results = #[.cell p ty, .tmp u]) (tmps : Array Value) (w : World) (g : Nat) (xs : List UInt8) (n : Nat) (e : TypeId) (hp : tmps.getD p undef = .pointer (some ⟨g, 0, none⟩)) (A : AAt w g ty xs)
    (hu : P.underlying ty = some (.array n e)) (hi : (P.info? ty).map (·.size) = some xs.length) : (results fn tmps).run P w = .ok (.tuple #[.agg (xs.map bv).toArray, tmps.getD u undef]) w := by
  rw [results_cell_tmp h, hp]
  have := run_loadVar_row (P := P) w g ty ty (xs.map bv).toArray (0, 0) _ A hu rfl (by rw [bv_size]; exact hi)
  simp only [asAddr, Sem.run_pure, Result.andThen, this]
/-- A result array that lies in a block. -/
theorem ret_arr1 {P : Program} {fn : Func} {p : Tmp} {ty : TypeId} (h : fn.results = #[.cell p ty]) (tmps : Array Value) (w : World) (g : Nat) (xs : List UInt8) (n : Nat) (e : TypeId) (hp : tmps.getD p undef = .pointer (some ⟨g, 0, none⟩)) (A : AAt w g ty xs)
    (hu : P.underlying ty = some (.array n e)) (hi : (P.info? ty).map (·.size) = some xs.length) : (results fn tmps).run P w = .ok (.agg (xs.map bv).toArray) w :=
  results_cell_row h tmps w g ty _ (0, 0) _ hp A hu rfl (by rw [bv_size]; exact hi)

theorem size25 : (Tryz.prog.info? 25).map (·.size) = some 16 := by kernel_rfl

theorem set_step (vs : List UInt8) (j k : Nat) (u : UInt8) (h : vs.length = j) (hk : 0 < k) : (vs ++ List.replicate k 0).set j u = (vs ++ [u]) ++ List.replicate (k - 1) 0 := by
  obtain ⟨m, rfl⟩ : ∃ m, k = m + 1 := ⟨k - 1, by omega⟩
  subst h
  rw [List.replicate_succ, List.set_append_right _ _ (Nat.le_refl _)]
  simp

end Go.Proofs.YtblpmgkagbiogaaGreat

namespace Go.Proofs.YtblpmgkagbiogaaGreat
open Go.RowKit
set_option maxRecDepth 100000

theorem items_bytes {P : Program} (d : Nat) (e : TypeId) (he : P.underlying e = some (.int .u8)) (hk : P.plainKey e = true) (xs ys : List UInt8) (w : World) (hl : xs.length = ys.length) :
    ∀ (m k : Nat), k + m = xs.length → (Op.eqItems (d + 1) e 1 (xs.map bv).toArray (ys.map bv).toArray (List.range' k m)).run P w = .ok (decide (xs.drop k = ys.drop k)) w
  | 0, k, h => by
    have e1 : xs.drop k = ys.drop k := by rw [List.drop_eq_nil_of_le (by omega), List.drop_eq_nil_of_le (by omega)]
    simp only [List.range'_zero, Op.eqItems, Sem.run_pure]
    rw [decide_eq_true e1]
  | m + 1, k, h => by
    have hx : k < xs.length := by omega
    have hy : k < ys.length := by omega
    have p1 := run_part_plain (P := P) w hk (xs := (xs.map bv).toArray) (off := k * 1) (v := bv xs[k]) (by simp [hx])
    have p2 := run_part_plain (P := P) w hk (xs := (ys.map bv).toArray) (off := k * 1) (v := bv ys[k]) (by simp [hy])
    have p3 : (Op.equalIn (d + 1) e (bv xs[k]) (bv ys[k])).run P w = .ok ((xs[k].toNat : Int) == (ys[k].toNat : Int)) w := run_equalIn_int w d e .u8 .u8 _ _ he
    have ih := items_bytes d e he hk xs ys w hl m (k + 1) (by omega)
    rw [List.range'_succ]
    simp only [Op.eqItems, Sem.run_bind, p1, p2, p3, Result.andThen_ok]
    rw [List.drop_eq_getElem_cons hx, List.drop_eq_getElem_cons hy]
    by_cases hq : xs[k] = ys[k]
    · rw [hq, show ((ys[k].toNat : Int) == (ys[k].toNat : Int)) = true by simp]
      simp only [Bool.not_true, Bool.false_eq_true, if_false]
      rw [ih]
      simp only [List.cons.injEq, true_and]
    · have : ((xs[k].toNat : Int) == (ys[k].toNat : Int)) = false := by
        rw [beq_eq_false_iff_ne]
        intro e
        exact hq (UInt8.toNat_inj.1 (by omega))
      rw [this]
      simp only [Bool.not_false, if_true, Sem.run_pure]
      rw [decide_eq_false (fun e => hq (List.cons.inj e).1)]

theorem eq_bytes {P : Program} {t e : TypeId} {n : Nat} {i : TypeInfo} (hu : P.underlying t = some (.array n e)) (hi : P.info? e = some i) (he : P.underlying e = some (.int .u8)) (hk : P.plainKey e = true) (hc : P.cellsOf e = 1) (xs ys : List UInt8) (hx : xs.length = n) (hy : ys.length = n) (w : World) :
    (Op.equalIn 10000 t (.agg (xs.map bv).toArray) (.agg (ys.map bv).toArray)).run P w = .ok (decide (xs = ys)) w := by
  rw [show (10000 : Nat) = 9999 + 1 from rfl, run_equalIn_array w 9999 _ _ hu hi, hc, List.range_eq_range', show (9999 : Nat) = 9998 + 1 from rfl, items_bytes 9998 e he hk xs ys w (by omega) n 0 (by omega)]
  rfl

theorem eq25 (xs ys : List UInt8) (hx : xs.length = 16) (hy : ys.length = 16) (w : World) : (Op.equalIn 10000 25 (.agg (xs.map bv).toArray) (.agg (ys.map bv).toArray)).run Tryz.prog w = .ok (decide (xs = ys)) w := by
  obtain ⟨i0, hi, -⟩ := info_parts info5
  exact eq_bytes Tryz.underlying25 hi Tryz.underlying5 (by kernel_rfl) (by kernel_rfl) xs ys hx hy w

end Go.Proofs.YtblpmgkagbiogaaGreat
