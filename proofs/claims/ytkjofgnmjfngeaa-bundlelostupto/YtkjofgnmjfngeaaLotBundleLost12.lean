/-
  The landed reader: its six steps as a row. The document's own Packet. Package frame as landed: Check, the reader's beginning, what is caught, a frame that is refused for its link. The document's own Put. 'append' within a statement whose order is open. The document's own Bytes, Encode and Decode. The document's own Space, zero, Field and Head of chapter 8. Numbers of 32 bits; Sum.
-/
import Derived.Test.YtkjofgnmjfngeaaLotBundleLost11
import Derived.Shelf.Abstract
import Derived.Test.YtkjofgnmjfngeaaFrameV
import Derived.Test.YtkjofgnmjfngeaaLotBundleLost1
import Derived.Test.YtkjofgnmjfngeaaBase
import Derived.Defers
import Derived.Recover
import Derived.Deep.MidRow
import Derived.Test.YtkjofgnmjfngeaaLotBundleLost6
import Derived.Deep.RegionLaw
import Derived.Test.YtkjofgnmjfngeaaLotBundleLost7
import Derived.Deep.RegionHeld3
import Derived.Test.YtkjofgnmjfngeaaForgeV
import Derived.Test.YtkjofgnmjfngeaaLotBundleLost8
namespace Go.Proofs.Ytkjofgnmjfngeaa
open Go.RowKit
set_option maxRecDepth 100000

/-- Where a reader stands ahead of a step. -/
def InvX (b : List UInt8) (i : Nat) (v : Vw) : Prop := v.pos ≤ b.length ∧ (i ≤ 1 → v.pos = 0)

theorem protoS_pos {l : Lk} {b : List UInt8} {v u : Vw} (h : protoS l b v = .ok u) : u.pos ≤ b.length := by
  obtain ⟨q, hq, h⟩ := bind_ok h
  cases h
  exact (proto_grows (c := []) hq).2.2
theorem ip_pos {b : List UInt8} {v u : Vw} (h : ipV v b = .ok u) : u.pos = v.pos := by
  unfold ipV at h
  repeat' split at h
  all_goals cases h
  all_goals rfl

theorem step_inv {l : Lk} {b : List UInt8} {i : Nat} {v u : Vw} (hi : i < 6) (hv : InvX b i v) (h : stepX l b i v = .ok u) : InvX b (i + 1) u := by
  have hs : i = 0 ∨ i = 1 ∨ i = 2 ∨ i = 3 ∨ i = 4 ∨ i = 5 := by omega
  rcases hs with rfl | rfl | rfl | rfl | rfl | rfl
  · have h' : (if 65535 < b.length then .error 71 else .ok v : Except Int Vw) = .ok u := h
    split at h'
    · cases h'
    · cases h'
      exact ⟨hv.1, fun _ => hv.2 (by omega)⟩
  · obtain ⟨p, hp, h⟩ := bind_ok h
    cases h
    refine ⟨?_, fun e => by omega⟩
    have h0 := hv.2 (by omega)
    show v.pos + p ≤ b.length
    unfold plainV at hp
    split at hp
    · rename_i hc
      cases hp
      omega
    · split at hp
      · cases hp; omega
      · split at hp <;> cases hp
  · exact ⟨protoS_pos h, fun e => by omega⟩
  · have h' : headS l b v = .ok u := h
    unfold headS at h'
    split at h'
    · cases h'
      exact ⟨hv.1, fun e => by omega⟩
    · obtain ⟨q, hq, h'⟩ := bind_ok h'
      cases h'
      exact ⟨(head_grows (c := []) hq).2.2.1, fun e => by omega⟩
  · have h' : (if v.beg = true then protoS l b v else .ok v) = .ok u := h
    split at h'
    · exact ⟨protoS_pos h', fun e => by omega⟩
    · cases h'
      exact ⟨hv.1, fun e => by omega⟩
  · have h' : netS b v = .ok u := h
    unfold netS at h'
    split at h'
    · exact ⟨by rw [ip_pos h']; exact hv.1, fun e => by omega⟩
    · cases h'
      exact ⟨hv.1, fun e => by omega⟩

end Go.Proofs.Ytkjofgnmjfngeaa

namespace Go.Proofs.Ytkjofgnmjfngeaa
open Go.RowKit
set_option maxRecDepth 100000

/-- P7.3. -/
def packV (way : Int) (b : List UInt8) : List UInt8 := if (way = 0 ∨ way = 1) ∧ b.length ≤ 65535 then UInt8.ofNat way.toNat :: b else []
theorem packV_len (way : Int) (b : List UInt8) : (packV way b).length ≤ 65536 := by
  unfold packV
  split
  · simp; omega
  · simp

end Go.Proofs.Ytkjofgnmjfngeaa

namespace Go.Proofs.Ytkjofgnmjfngeaa
open Go.RowKit
set_option maxRecDepth 100000

set_option maxHeartbeats 400000 in
theorem chk_any (l : Lk) (w : World) : Calls Try.prog 20 #[.agg (lkA l)] w fun e w' => e = .returned (.int .i64 (checkF l)) ∧ w.grownBy w' none := by
  obtain ⟨a, p, m⟩ := l
  simp only [lkA]
  by_cases h0 : m < 0
  · have e : checkF ⟨a, p, m⟩ = 70 := by rw [checkF, if_pos (.inl h0)]
    rw [e]
    go_enter Try.func20, Try.ntmps20
    go_wp2
    go_ret
    exact ⟨rfl, World.grownBy_alloc _ _ _⟩
  · by_cases h2 : 2 < m
    · have e : checkF ⟨a, p, m⟩ = 70 := by rw [checkF, if_pos (.inr h2)]
      rw [e]
      go_enter Try.func20, Try.ntmps20
      go_wp2
      go_ret
      exact ⟨rfl, World.grownBy_alloc _ _ _⟩
    · have e : checkF ⟨a, p, m⟩ = 0 := by rw [checkF, if_neg (by simp only; omega)]
      rw [e]
      go_enter Try.func20, Try.ntmps20
      go_wp2
      go_ret
      exact ⟨rfl, World.grownBy_alloc _ _ _⟩

set_option maxHeartbeats 1000000 in
theorem over_any (l : Lk) (a : Option Addr) (n ca : Nat) (w : World) : Calls Try.prog 24 #[.agg (lkA l), .slice a n ca] w fun e w' => ∃ g, e = .returned (.pointer (some ⟨g, 0, none⟩)) ∧ WAt w' g Vw.zero l (.slice a n ca) ∧ w.heap.size ≤ g ∧ w.grownBy w' none := by
  obtain ⟨ac, pf, m⟩ := l
  simp only [lkA]
  go_enter Try.func24, Try.ntmps24
  go_wp2
  go_ret
  refine ⟨_, rfl, ?_, Nat.le_succ _, grown_trans (World.grownBy_alloc _ _ _) (World.grownBy_alloc _ _ _)⟩
  have k := VAt.alloc (w.alloc (.cells #[.bool ac, .bool pf, .int .i64 m] 26)) 72 (wkA Vw.zero ⟨ac, pf, m⟩ (.slice a n ca))
  rw [show (w.alloc (.cells #[.bool ac, .bool pf, .int .i64 m] 26)).heap.size = w.heap.size + 1 by simp] at k
  exact k

/-- Three new blocks: the boxed link, the view, the error. -/
theorem three_blocks (w : World) (l : Lk) (t s r : Nat) (cs ds : Array Value) :
    VAt (((w.alloc (.cells (lkA l) t)).alloc (.cells cs s)).alloc (.cells ds r)) w.heap.size t (lkA l) ∧ VAt (((w.alloc (.cells (lkA l) t)).alloc (.cells cs s)).alloc (.cells ds r)) (w.heap.size + 1) s cs ∧ VAt (((w.alloc (.cells (lkA l) t)).alloc (.cells cs s)).alloc (.cells ds r)) (w.heap.size + 2) r ds ∧ w.grownBy (((w.alloc (.cells (lkA l) t)).alloc (.cells cs s)).alloc (.cells ds r)) none := by
  obtain ⟨A0, A1, G⟩ := two_blocks w l t s cs
  have A2 := VAt.alloc ((w.alloc (.cells (lkA l) t)).alloc (.cells cs s)) r ds
  have K := World.grownBy_alloc ((w.alloc (.cells (lkA l) t)).alloc (.cells cs s)) (.cells ds r) none
  rw [show ((w.alloc (.cells (lkA l) t)).alloc (.cells cs s)).heap.size = w.heap.size + 2 by simp] at A2
  exact ⟨A0.kept K, A1.kept K, A2, grown_trans G K⟩

end Go.Proofs.Ytkjofgnmjfngeaa

namespace Go.Proofs.Ytkjofgnmjfngeaa
open Go.RowKit
set_option maxRecDepth 100000

end Go.Proofs.Ytkjofgnmjfngeaa

namespace Go.Proofs.Ytkjofgnmjfngeaa
open Go.RowKit
set_option maxRecDepth 100000

/-- 'append(dst, ..)' within a statement whose order is open: dst the call's own. -/
theorem step_append_rd {P : Program} {ops : Array Oper} {o : Oper} {a : Act} {w : World} {K : Act → World → Prop} {Q : Exit → Act → World → Prop} {E : Prop}
    (hgd : o.guard = none) (s x : Operand) (t : TypeId) (ho : o.op = .call { callee := .builtin .append, args := #[s, x], argTypes := #[t, t] })
    (i : TypeInfo) (ht : P.underlying t = some (.slice 5)) (hi : P.info? 5 = some i) (hz : i.zero = some (.int .u8 0)) (hsize : i.size = 1) (hby : i.bytes = 1)
    (base : Nat) (v : Value) (xs : List UInt8) (hs : a.eval s = v) (hown : Owns w base v xs)
    (ad : Addr) (c : Nat) (ys : List UInt8) (hx : a.eval x = .slice (some ad) ys.length c) (hys : Cells w (some ad) ys)
    (hbytes : xs.length + ys.length ≤ 140737488355328) (hbase : base ≤ w.heap.size)
    (hK : ∀ v' w', Owns w' base v' (xs ++ ys) → w.grownBy w' v.ownBlock → K (a.put o.dst v') w') :
    if Region.wanted o (yielded ops a.tmps) = true then Oper.wp P o a w K Q else E := by
  have hw : Region.wanted o (yielded ops a.tmps) = true := by simp [Region.wanted, hgd]
  rw [if_pos hw]
  refine wp_append_own w s x t ho base 5 i (.int .u8 0) 1 1 ht hi hz hsize hby rfl (by decide) v xs.length (xs.map bv) hs hown ad ys.length c (ys.map bv) hx (by simp) ?_ (bv_one ys) (by unfold maxLen; omega) (by omega) hbase ?_
  · intro j u hj
    obtain ⟨hlt, e⟩ := List.getElem?_eq_some_iff.1 hj
    simp only [List.length_map] at hlt
    rw [hys.2 ad rfl j hlt, ← e]
    simp
  · intro v' w' h1 h2 _
    refine hK v' w' ?_ h2
    unfold Owns
    rw [List.length_append, List.map_append]
    exact h1

theorem grown_alloc_drew (w : World) (o : Obj) (row : Option Nat) : w.grownBy (w.alloc o).drew row :=
  let g := World.grownBy_alloc w o row
  ⟨g.os, g.tape, g.output, g.size, g.block⟩

/-- The same for elements of several cells. -/
theorem step_append_cv {P : Program} {ops : Array Oper} {o : Oper} {a : Act} {w : World} {K : Act → World → Prop} {Q : Exit → Act → World → Prop} {E : Prop}
    (hgd : o.guard = none) (s x : Operand) (t : TypeId) (ho : o.op = .call { callee := .builtin .append, args := #[s, x], argTypes := #[t, t] })
    (e : TypeId) (i : TypeInfo) (z : Value) (size bytes : Nat) (ht : P.underlying t = some (.slice e)) (hi : P.info? e = some i) (hz : i.zero = some z) (hsize : i.size = size) (hby : i.bytes = bytes) (hzs : z.cells.size = size) (hsz : 0 < size)
    (base : Nat) (v : Value) (n : Nat) (vs : List Value) (hs : a.eval s = v) (hown : w.ownsRow base e size v n vs)
    (ad : Addr) (m c : Nat) (us : List Value) (hx : a.eval x = .slice (some ad) m c) (hl : us.length = m * size) (hus : CV w (some ad) us) (h1 : ∀ u ∈ us, u.oneCell' = true)
    (h63 : n + m ≤ maxLen) (hbytes : (n + m) * bytes ≤ 140737488355328) (hbase : base ≤ w.heap.size)
    (hK : ∀ v' w', w'.ownsRow base e size v' (n + m) (vs ++ us) → w.grownBy w' v.ownBlock → K (a.put o.dst v') w') :
    if Region.wanted o (yielded ops a.tmps) = true then Oper.wp P o a w K Q else E := by
  have hw : Region.wanted o (yielded ops a.tmps) = true := by simp [Region.wanted, hgd]
  rw [if_pos hw]
  refine wp_append_own w s x t ho base e i z size bytes ht hi hz hsize hby hzs hsz v n vs hs hown ad m c us hx hl ?_ h1 h63 hbytes hbase fun v' w' h1 h2 _ => hK v' w' h1 h2
  intro j u hj
  obtain ⟨hlt, e⟩ := List.getElem?_eq_some_iff.1 hj
  rw [hus.2 ad rfl j hlt, e]

end Go.Proofs.Ytkjofgnmjfngeaa

namespace Go.Proofs.Ytkjofgnmjfngeaa
open Go.RowKit
set_option maxRecDepth 100000

/-- v in so many bytes. -/
def bytesV (S v : Nat) : List UInt8 := putTo (List.replicate S 0) 0 S v S

theorem bytesV_len (S v : Nat) : (bytesV S v).length = S := by simp [bytesV, putTo_len]

theorem bytesV_put (S v : Nat) (hS : S = 1 ∨ S = 2 ∨ S = 4) : putV (List.replicate S (0 : UInt8)) 0 S v = bytesV S v ∧ okB (List.replicate S (0 : UInt8)).length 0 S = true := by
  have hok : okB (List.replicate S (0 : UInt8)).length 0 S = true := decide_eq_true (by rw [List.length_replicate]; omega)
  refine ⟨?_, hok⟩
  simp only [putV, hok, if_pos]
  rfl

/-- An instruction's bytes; a program's. -/
def encI (x : In) : List UInt8 := bytesV 2 x.code.toNat ++ [x.jt, x.jf] ++ bytesV 4 x.k.toNat
def encS (xs : List In) : List UInt8 := xs.flatMap encI

theorem encI_len (x : In) : (encI x).length = 8 := by simp [encI, bytesV_len]
theorem encS_succ (xs : List In) (k : Nat) (hk : k < xs.length) : encS (xs.take (k + 1)) = encS (xs.take k) ++ encI xs[k] := by
  rw [List.take_succ_eq_append_getElem hk]; simp only [encS, List.flatMap_append, List.flatMap_cons, List.flatMap_nil, List.append_nil]
theorem encS_len (xs : List In) : (encS xs).length = 8 * xs.length := by
  induction xs with
  | nil => rfl
  | cons x xs ih => simp only [encS, List.flatMap_cons, List.length_append, List.length_cons, encI_len] at *; omega

/-- What a call leaves that makes bytes, or an error. -/
def MadeE (w w' : World) (e : Ending) (xs : List UInt8) (code : Int) : Prop := ∃ v, e = .returned (.tuple #[v, .int .i64 code]) ∧ Owns w' w.heap.size v xs ∧ w.grownBy w' none

def encV (xs : List In) : List UInt8 := if xs.length ≤ 4096 then encS xs else []
def encE (xs : List In) : Int := if xs.length ≤ 4096 then 0 else 21

end Go.Proofs.Ytkjofgnmjfngeaa

namespace Go.Proofs.Ytkjofgnmjfngeaa
open Go.RowKit
set_option maxRecDepth 100000

theorem zeroB_end (xs : List UInt8) (h : xs.length = 16) : zeroB xs 16 = true := by
  unfold zeroB
  rw [List.drop_eq_nil_of_le (by omega)]
  rfl
theorem zeroB_step (xs : List UInt8) (k : Nat) (h : k < xs.length) : zeroB xs k = (xs[k] == 0 && zeroB xs (k + 1)) := by
  unfold zeroB
  rw [List.drop_eq_getElem_cons h, List.all_cons]

theorem be2_eq (v : Nat) : bytesV 2 v = be2 v := by
  show [UInt8.ofNat (shr8 v 1), UInt8.ofNat (shr8 v 0)] = _
  simp [be2, shr8]
theorem be4_eq (v : Nat) : bytesV 4 v = be4 v := by
  show [UInt8.ofNat (shr8 v 3), UInt8.ofNat (shr8 v 2), UInt8.ofNat (shr8 v 1), UInt8.ofNat (shr8 v 0)] = _
  simp [be4, shr8]

theorem or_top (k n : Nat) (h : n < 2 ^ k) : n ||| 2 ^ k = 2 ^ k + n := by
  have := Nat.two_pow_add_eq_or_of_lt h 1
  rw [Nat.mul_one] at this
  rw [Nat.or_comm]
  exact this.symm
theorem or_two (k n : Nat) (h : n < 2 ^ k) : (2 ^ (k + 1) + n) ||| 2 ^ k = 2 ^ (k + 1) + (2 ^ k + n) := by
  have h2 : 2 ^ k + n < 2 ^ (k + 1) := by rw [Nat.pow_succ]; omega
  have h1 : n < 2 ^ (k + 1) := by rw [Nat.pow_succ]; omega
  rw [← or_top (k + 1) n h1, Nat.or_comm n, Nat.or_assoc, or_top k n h, Nat.or_comm, or_top (k + 1) _ h2]

/-- A header's number, by bits. -/
theorem hd_bits (K seq : Nat) (beg fin : Bool) (h : seq < 2 ^ K) : ((if beg = true then seq ||| 2 ^ (K + 1) else seq) ||| (if fin = true then 2 ^ K else 0)) = (if beg = true then 2 ^ (K + 1) else 0) + (if fin = true then 2 ^ K else 0) + seq := by
  have h1 : seq < 2 ^ (K + 1) := by rw [Nat.pow_succ]; omega
  cases beg <;> cases fin <;> simp only [if_true, if_false, Bool.false_eq_true]
  · simp
  · rw [or_top K seq h]; omega
  · rw [or_top (K + 1) seq h1]; simp
  · rw [or_top (K + 1) seq h1, or_two K seq h]; omega

end Go.Proofs.Ytkjofgnmjfngeaa

namespace Go.Proofs.Ytkjofgnmjfngeaa
open Go.RowKit
set_option maxRecDepth 100000

/-- A number of 32 bits as a cell. -/
def wv (c : UInt32) : Value := .int .u32 (c.toNat : Int)

theorem CV.words {w : World} {ao : Option Addr} {xs : List UInt32} (h : CV w ao (xs.map wv)) {k : Nat} (hk : k < xs.length) :
    ∃ b off, ao = some ⟨b, off, none⟩ ∧ ∀ i (hi : i < xs.length), w.cell? ⟨b, off + i, none⟩ = some (.int .u32 (xs[i].toNat : Int)) := by
  obtain ⟨b, off, hao, hc⟩ := h.addr (k := k) (by simpa using hk)
  refine ⟨b, off, hao, fun i hi => ?_⟩
  rw [hc i (by simpa using hi)]
  simp [wv]

/-- The sum, however great. -/
def tot (xs : List UInt32) : Nat := (xs.map UInt32.toNat).sum

theorem tot_nil : tot [] = 0 := rfl

theorem tot_cons (x : UInt32) (xs : List UInt32) : tot (x :: xs) = x.toNat + tot xs := by simp [tot]

theorem tot_append (xs ys : List UInt32) : tot (xs ++ ys) = tot xs + tot ys := by simp [tot]

theorem tot_take_succ (xs : List UInt32) (k : Nat) (hk : k < xs.length) : tot (xs.take (k + 1)) = tot (xs.take k) + xs[k].toNat := by
  rw [List.take_succ_eq_append_getElem hk, tot_append, tot_cons, tot_nil]; omega

theorem tot_take_le (xs : List UInt32) (k : Nat) : tot (xs.take k) ≤ tot xs := by
  have h := tot_append (xs.take k) (xs.drop k)
  rw [List.take_append_drop] at h
  omega

/-- What Sum says. -/
def sumS (xs : List UInt32) : Nat := min (tot xs) 4294967295

theorem sum_stop {xs : List UInt32} {k : Nat} (hk : k < xs.length) (h : (4294967295 : Int) - (tot (xs.take k) : Int) < (xs[k].toNat : Int)) : (4294967295 : Int) = (sumS xs : Int) := by
  have h1 := tot_take_succ xs k hk
  have h2 := tot_take_le xs (k + 1)
  unfold sumS
  omega

set_option maxHeartbeats 400000 in
theorem sum_any (a : Option Addr) (ca : Nat) (xs : List UInt32) (w : World) (ha : CV w a (xs.map wv)) (hn : xs.length ≤ 140737488355328) :
    Calls Try.prog 22 #[.slice a xs.length ca] w fun e w' => e = .returned (.int .u32 (sumS xs)) ∧ w = w' := by
  go_enter Try.func22, Try.ntmps22
  go_wp2
  go_loop [3, 8, 5] (fun t i _ => ∃ k : Nat, k ≤ xs.length ∧ i = .int .i64 k ∧ t = .int .u32 (tot (xs.take k)) ∧ tot (xs.take k) ≤ 4294967295) (fun _ i _ => xs.length - (intOf i).toNat)
  case atStart => exact ⟨0, Nat.zero_le _, rfl, rfl, by simp [tot]⟩
  case round =>
    obtain ⟨k, hk, rfl, rfl, hle⟩ := hrel
    by_cases hlt : k < xs.length
    · obtain ⟨b, o, rfl, h1⟩ := ha.words hlt
      have c1 := h1 k hlt
      have hx := xs[k].toNat_lt
      have HT : Hid (tot (xs.take (k + 1)) = tot (xs.take k) + xs[k].toNat) := tot_take_succ xs k hlt
      clear ha h1
      go_wp2
      · go_ret
        exact ⟨ret_int (sum_stop hlt ‹_›), rfl⟩
      · have hs : (xs[k].toNat : Int) ≤ 4294967295 - (tot (List.take k xs) : Int) := by assumption
        go_round
        case rel => exact ⟨k + 1, by omega, by go_num, by rw [HT.out]; go_num, by rw [HT.out]; omega⟩
        case measure => simp [intOf]; omega
    · obtain rfl : k = xs.length := by omega
      rw [List.take_length] at hle ⊢
      go_wp2
      go_ret
      exact ⟨ret_int (by unfold sumS; omega), rfl⟩

theorem sum_len (a : Option Addr) (n ca : Nat) (xs : List UInt32) (hx : xs.length = n) (w : World) (ha : CV w a (xs.map wv)) (hn : xs.length ≤ 140737488355328) :
    Calls Try.prog 22 #[.slice a n ca] w fun e w' => e = .returned (.int .u32 (sumS xs)) ∧ w = w' := by
  subst hx
  exact sum_any a ca xs w ha hn

end Go.Proofs.Ytkjofgnmjfngeaa
