/-
  Package frame as landed: Check, the reader's beginning, what is caught, a frame that is refused for its link. The document's own IP. The document's own Look. Numbers of 32 bits; Sum. Join: the bytes of all parts, in new memory.
-/
import Derived.Test.YtblpmgkagbiogaaGreatLotP38
import Derived.Defers
import Derived.Recover
import Derived.Deep.MidRow
import Derived.Test.YtblpmgkagbiogaaGreatLotP8
import Derived.Deep.WholeRow
import Derived.Test.YtblpmgkagbiogaaGreatLotP2
namespace Go.Proofs.YtblpmgkagbiogaaGreat
open Go.RowKit
set_option maxRecDepth 100000

set_option maxHeartbeats 400000 in
theorem chk_any (l : Lk) (w : World) : Calls Tryz.prog 10 #[.agg (lkA l)] w fun e w' => e = .returned (.int .i64 (checkF l)) ∧ w.grownBy w' none := by
  obtain ⟨a, p, m⟩ := l
  simp only [lkA]
  by_cases h0 : m < 0
  · have e : checkF ⟨a, p, m⟩ = 70 := by rw [checkF, if_pos (.inl h0)]
    rw [e]
    go_enter Tryz.func10, Tryz.ntmps10
    go_wp2
    go_ret
    exact ⟨rfl, World.grownBy_alloc _ _ _⟩
  · by_cases h2 : 2 < m
    · have e : checkF ⟨a, p, m⟩ = 70 := by rw [checkF, if_pos (.inr h2)]
      rw [e]
      go_enter Tryz.func10, Tryz.ntmps10
      go_wp2
      go_ret
      exact ⟨rfl, World.grownBy_alloc _ _ _⟩
    · have e : checkF ⟨a, p, m⟩ = 0 := by rw [checkF, if_neg (by simp only; omega)]
      rw [e]
      go_enter Tryz.func10, Tryz.ntmps10
      go_wp2
      go_ret
      exact ⟨rfl, World.grownBy_alloc _ _ _⟩

set_option maxHeartbeats 1000000 in
theorem over_any (l : Lk) (a : Option Addr) (n ca : Nat) (w : World) : Calls Tryz.prog 59 #[.agg (lkA l), .slice a n ca] w fun e w' => ∃ g, e = .returned (.pointer (some ⟨g, 0, none⟩)) ∧ WAt w' g Vw.zero l (.slice a n ca) ∧ w.heap.size ≤ g ∧ w.grownBy w' none := by
  obtain ⟨ac, pf, m⟩ := l
  simp only [lkA]
  go_enter Tryz.func59, Tryz.ntmps59
  go_wp2
  go_ret
  refine ⟨_, rfl, ?_, Nat.le_succ _, grown_trans (World.grownBy_alloc _ _ _) (World.grownBy_alloc _ _ _)⟩
  have k := VAt.alloc (w.alloc (.cells #[.bool ac, .bool pf, .int .i64 m] 23)) 104 (wkA Vw.zero ⟨ac, pf, m⟩ (.slice a n ca))
  rw [show (w.alloc (.cells #[.bool ac, .bool pf, .int .i64 m] 23)).heap.size = w.heap.size + 1 by simp] at k
  exact k

/-- Three new blocks: the boxed link, the view, the error. -/
theorem three_blocks (w : World) (l : Lk) (t s r : Nat) (cs ds : Array Value) :
    VAt (((w.alloc (.cells (lkA l) t)).alloc (.cells cs s)).alloc (.cells ds r)) w.heap.size t (lkA l) ∧ VAt (((w.alloc (.cells (lkA l) t)).alloc (.cells cs s)).alloc (.cells ds r)) (w.heap.size + 1) s cs ∧ VAt (((w.alloc (.cells (lkA l) t)).alloc (.cells cs s)).alloc (.cells ds r)) (w.heap.size + 2) r ds ∧ w.grownBy (((w.alloc (.cells (lkA l) t)).alloc (.cells cs s)).alloc (.cells ds r)) none := by
  obtain ⟨A0, A1, G⟩ := two_blocks w l t s cs
  have A2 := VAt.alloc ((w.alloc (.cells (lkA l) t)).alloc (.cells cs s)) r ds
  have K := World.grownBy_alloc ((w.alloc (.cells (lkA l) t)).alloc (.cells cs s)) (.cells ds r) none
  rw [show ((w.alloc (.cells (lkA l) t)).alloc (.cells cs s)).heap.size = w.heap.size + 2 by simp] at A2
  exact ⟨A0.kept K, A1.kept K, A2, grown_trans G K⟩

set_option maxHeartbeats 1000000 in
theorem catch_pan (R E : Nat) (er e0 : Int) (X : Array Value) (w : World) (hR : VAt w R 81 X) (hX : X.size = 9) (hE : VAt w E 29 #[.int .i64 e0]) (hne : R ≠ E) :
    CallsD Tryz.prog 58 #[.pointer (some ⟨R, 0, none⟩), .pointer (some ⟨E, 0, none⟩)] (.panicking (PanE er)) w fun e u' w' =>
      e = .returned (.tuple #[]) ∧ u' = .panicking [{ v := .iface 29 (.int .i64 er), recovered := true }] ∧ w' = (w.setRow R (vwA Vw.zero)).setCell ⟨E, 0, none⟩ (.int .i64 er) := by
  have hta : ∀ W : World, (Instr.typeAssert (.iface 29 (.int .i64 er)) 20 29 true).run Tryz.prog W = .ok (.tuple #[.int .i64 er, .bool true]) W := fun W => by kernel_rfl
  refine callsD_of_wpS Tryz.func58 rfl fun c₀ cs hu => ?_
  unfold PanE at hu
  apply wpS_seq
  apply wpS_region
  simp [wpOpsS, go_sem, recoverD, hu, hta, Tryz.ntmps58, Exit.thenS]
  refine wpS_of_wp ?_
  have HS : Hid ((Tryz.prog.info? 81).map (·.size) = some (vwA Vw.zero).size) := size81
  have HX : Hid (X.size = (vwA Vw.zero).size) := hX
  have RA := hR
  have E1 := hE.grown (w' := w.setRow R (vwA Vw.zero)) (vgrown_setRow (World.grownBy.refl w (some R)) R (vwA Vw.zero) (.inl rfl)) (by simpa using hne)
  have cE : (w.setRow R (vwA Vw.zero)).cell? ⟨E, 0, none⟩ = some (.int .i64 e0) := E1.cell 0
  have fE := E1.free 0
  clear hta hX hE E1 hR
  obtain ⟨T, hT⟩ : ∃ T, Tryz.f58 = T := ⟨_, rfl⟩
  have HT : Hid (T.results = #[]) := by show T.results = #[]; rw [← hT]; rfl
  rw [hT]
  clear hT
  have eT : (#[.pointer (some ⟨R, 0, none⟩), .pointer (some ⟨E, 0, none⟩)] ++ (((((((Array.replicate 10 undef).setIfInBounds 3 (.iface 29 (.int .i64 er))).setIfInBounds 4 (.tuple #[.int .i64 er, .bool true])).setIfInBounds 2 (.tuple #[.int .i64 er, .bool true])).setIfInBounds 5 (.int .i64 er)).setIfInBounds 6 (.bool true)).setIfInBounds 0 (.int .i64 er)).setIfInBounds 1 (.bool true) : Array Value) = #[.pointer (some ⟨R, 0, none⟩), .pointer (some ⟨E, 0, none⟩), .int .i64 er, .bool true, .tuple #[.int .i64 er, .bool true], .iface 29 (.int .i64 er), .tuple #[.int .i64 er, .bool true], .int .i64 er, .bool true, undef, undef, undef] := by kernel_rfl
  rw [eT]
  clear eT
  go_wp2_with (refine wpList_store_row rfl 81 (.tmp 0) (.tmp 10) rfl R (vwA Vw.zero) rfl rfl 81 X RA HS.out HX.out (vwA_all _) ?_)
  exact ⟨rfl, _, rfl, _, results_none HT.out _ _ _, rfl, rfl, rfl⟩

set_option maxHeartbeats 1000000 in
theorem catch_idle (R E : Nat) (w : World) :
    CallsD Tryz.prog 58 #[.pointer (some ⟨R, 0, none⟩), .pointer (some ⟨E, 0, none⟩)] .returning w fun e u' w' => e = .returned (.tuple #[]) ∧ u' = .returning ∧ w' = w := by
  have hta : ∀ W : World, (Instr.typeAssert .nilIface 20 29 true).run Tryz.prog W = .ok (.tuple #[.int .i64 0, .bool false]) W := fun W => by kernel_rfl
  refine callsD_of_wpS Tryz.func58 rfl fun c₀ cs hu => ?_
  apply wpS_seq
  apply wpS_region
  simp [wpOpsS, go_sem, recoverD, hu, hta, Tryz.ntmps58, Exit.thenS]
  refine wpS_of_wp ?_
  clear hta
  obtain ⟨T, hT⟩ : ∃ T, Tryz.f58 = T := ⟨_, rfl⟩
  have HT : Hid (T.results = #[]) := by show T.results = #[]; rw [← hT]; rfl
  rw [hT]
  clear hT
  have eT : (#[.pointer (some ⟨R, 0, none⟩), .pointer (some ⟨E, 0, none⟩)] ++ (((((((Array.replicate 10 undef).setIfInBounds 3 .nilIface).setIfInBounds 4 (.tuple #[.int .i64 0, .bool false])).setIfInBounds 2 (.tuple #[.int .i64 0, .bool false])).setIfInBounds 5 (.int .i64 0)).setIfInBounds 6 (.bool false)).setIfInBounds 0 (.int .i64 0)).setIfInBounds 1 (.bool false) : Array Value) = #[.pointer (some ⟨R, 0, none⟩), .pointer (some ⟨E, 0, none⟩), .int .i64 0, .bool false, .tuple #[.int .i64 0, .bool false], .nilIface, .tuple #[.int .i64 0, .bool false], .int .i64 0, .bool false, undef, undef, undef] := by kernel_rfl
  rw [eT]
  clear eT
  go_wp2
  exact ⟨rfl, _, by rw [← hu], _, results_none HT.out _ _ _, rfl, rfl, rfl⟩

end Go.Proofs.YtblpmgkagbiogaaGreat

namespace Go.Proofs.YtblpmgkagbiogaaGreat
open Go.RowKit
set_option maxRecDepth 100000

/-- A boxed view, and a second behind it. -/
theorem two_views (w : World) (t s : Nat) (ds cs : Array Value) :
    VAt ((w.alloc (.cells ds t)).alloc (.cells cs s)) w.heap.size t ds ∧ VAt ((w.alloc (.cells ds t)).alloc (.cells cs s)) (w.heap.size + 1) s cs ∧ w.grownBy ((w.alloc (.cells ds t)).alloc (.cells cs s)) none := by
  have A0 := VAt.alloc w t ds
  have A1 := VAt.alloc (w.alloc (.cells ds t)) s cs
  have K1 := World.grownBy_alloc (w.alloc (.cells ds t)) (.cells cs s) none
  rw [show (w.alloc (.cells ds t)).heap.size = w.heap.size + 1 by simp] at A1
  exact ⟨A0.kept K1, A1, grown_trans (World.grownBy_alloc w _ none) K1⟩

theorem mod_and_u8 (h k : Nat) (hh : h < 256) (hk : k ≤ 8) : bits .and .u8 (h : Int) ((2 ^ k - 1 : Nat) : Int) = ((h % 2 ^ k : Nat) : Int) := by
  have hlt : 2 ^ k ≤ 2 ^ 8 := Nat.pow_le_pow_right (by decide) hk
  have := u8_and_nat h (2 ^ k - 1) hh (by omega)
  rw [this, Nat.and_two_pow_sub_one_eq_mod]
theorem and15 (x : Nat) (h : x < 256) : bits BinOp.and IntKind.u8 (x : Int) 15 = ((x % 16 : Nat) : Int) := by
  have := mod_and_u8 x 4 h (by decide)
  exact this
theorem and31 (x : Nat) (h : x < 256) : bits BinOp.and IntKind.u8 (x : Int) 31 = ((x % 32 : Nat) : Int) := by
  have := mod_and_u8 x 5 h (by decide)
  exact this

theorem two_sets {w wa : World} {L R t : Nat} {v : Vw} (LA : VAt wa L t (vwA v)) (RA : VAt wa R t (vwA Vw.zero)) (G : w.grownBy wa none) (hRL : R ≠ L) (hL : w.heap.size ≤ L) (n1 n2 : Nat) :
    VAt ((wa.setCell ⟨L, 6, none⟩ (.int .i64 (n1 : Int))).setCell ⟨L, 7, none⟩ (.int .i64 (n2 : Int))) L t (vwA { v with net := n1, next := n2 })
    ∧ VAt ((wa.setCell ⟨L, 6, none⟩ (.int .i64 (n1 : Int))).setCell ⟨L, 7, none⟩ (.int .i64 (n2 : Int))) R t (vwA Vw.zero)
    ∧ w.grownBy ((wa.setCell ⟨L, 6, none⟩ (.int .i64 (n1 : Int))).setCell ⟨L, 7, none⟩ (.int .i64 (n2 : Int))) none :=
  ⟨(LA.set 6 _).set 7 _, (RA.setOther _ hRL).setOther _ hRL, grown_setCell (grown_setCell G _ _ (.inr hL)) _ _ (.inr hL)⟩
theorem three_sets {w wa : World} {L R t : Nat} {v : Vw} (LA : VAt wa L t (vwA v)) (RA : VAt wa R t (vwA Vw.zero)) (G : w.grownBy wa none) (hRL : R ≠ L) (hL : w.heap.size ≤ L) (n1 n2 n3 : Nat) :
    VAt (((wa.setCell ⟨L, 6, none⟩ (.int .i64 (n1 : Int))).setCell ⟨L, 7, none⟩ (.int .i64 (n2 : Int))).setCell ⟨L, 8, none⟩ (.int .i64 (n3 : Int))) L t (vwA { v with net := n1, next := n2, load := n3 })
    ∧ VAt (((wa.setCell ⟨L, 6, none⟩ (.int .i64 (n1 : Int))).setCell ⟨L, 7, none⟩ (.int .i64 (n2 : Int))).setCell ⟨L, 8, none⟩ (.int .i64 (n3 : Int))) R t (vwA Vw.zero)
    ∧ w.grownBy (((wa.setCell ⟨L, 6, none⟩ (.int .i64 (n1 : Int))).setCell ⟨L, 7, none⟩ (.int .i64 (n2 : Int))).setCell ⟨L, 8, none⟩ (.int .i64 (n3 : Int))) none := by
  obtain ⟨h1, h2, h3⟩ := two_sets LA RA G hRL hL n1 n2
  exact ⟨h1.set 8 _, h2.setOther _ hRL, grown_setCell h3 _ _ (.inr hL)⟩

end Go.Proofs.YtblpmgkagbiogaaGreat

namespace Go.Proofs.YtblpmgkagbiogaaGreat
open Go.RowKit
set_option maxRecDepth 100000

theorem piece_err {l : Lk} {b : List UInt8} {e : Int} (h : pieceV l b = .error e) : (e != 0) = true := by
  unfold pieceV at h
  split at h
  · cases h; rfl
  · cases hp : plainV l b with
    | error x => rw [hp] at h; cases h; exact plain_err hp
    | ok p =>
      rw [bind_of hp] at h
      cases hq : protoV l b p with
      | error x => rw [hq] at h; cases h; exact proto_err hq
      | ok q =>
        rw [bind_of hq] at h
        split at h
        · cases h
        · cases hh : headV l b q.2 with
          | error x => rw [hh] at h; cases h; exact head_err hh
          | ok z => rw [bind_of hh] at h; cases h

end Go.Proofs.YtblpmgkagbiogaaGreat

namespace Go.Proofs.YtblpmgkagbiogaaGreat
open Go.RowKit
set_option maxRecDepth 100000

/-- A number of 32 bits as a cell. -/
def wv (c : UInt32) : Value := .int .u32 (c.toNat : Int)

theorem CV.words {w : World} {ao : Option Addr} {xs : List UInt32} (h : CV w ao (xs.map wv)) {k : Nat} (hk : k < xs.length) :
    ∃ b off, ao = some ⟨b, off, none⟩ ∧ ∀ i (hi : i < xs.length), w.cell? ⟨b, off + i, none⟩ = some (.int .u32 (xs[i].toNat : Int)) := by
  obtain ⟨b, off, hao, hc⟩ := h.addr (k := k) (by simpa using hk)
  refine ⟨b, off, hao, fun i hi => ?_⟩
  rw [hc i (by simpa using hi)]
  simp [wv]

/-- The sum, however great. -/
def tot (xs : List UInt32) : Nat := (xs.map UInt32.toNat).sum

theorem tot_nil : tot [] = 0 := rfl

theorem tot_cons (x : UInt32) (xs : List UInt32) : tot (x :: xs) = x.toNat + tot xs := by simp [tot]

theorem tot_append (xs ys : List UInt32) : tot (xs ++ ys) = tot xs + tot ys := by simp [tot]

theorem tot_take_succ (xs : List UInt32) (k : Nat) (hk : k < xs.length) : tot (xs.take (k + 1)) = tot (xs.take k) + xs[k].toNat := by
  rw [List.take_succ_eq_append_getElem hk, tot_append, tot_cons, tot_nil]; omega

theorem tot_take_le (xs : List UInt32) (k : Nat) : tot (xs.take k) ≤ tot xs := by
  have h := tot_append (xs.take k) (xs.drop k)
  rw [List.take_append_drop] at h
  omega

/-- What Sum says. -/
def sumS (xs : List UInt32) : Nat := min (tot xs) 4294967295

theorem sum_stop {xs : List UInt32} {k : Nat} (hk : k < xs.length) (h : (4294967295 : Int) - (tot (xs.take k) : Int) < (xs[k].toNat : Int)) : (4294967295 : Int) = (sumS xs : Int) := by
  have h1 := tot_take_succ xs k hk
  have h2 := tot_take_le xs (k + 1)
  unfold sumS
  omega

set_option maxHeartbeats 400000 in
theorem sum_any (a : Option Addr) (ca : Nat) (xs : List UInt32) (w : World) (ha : CV w a (xs.map wv)) (hn : xs.length ≤ 140737488355328) :
    Calls Tryz.prog 40 #[.slice a xs.length ca] w fun e w' => e = .returned (.int .u32 (sumS xs)) ∧ w = w' := by
  go_enter Tryz.func40, Tryz.ntmps40
  go_wp2
  go_loop [3, 8, 5] (fun t i _ => ∃ k : Nat, k ≤ xs.length ∧ i = .int .i64 k ∧ t = .int .u32 (tot (xs.take k)) ∧ tot (xs.take k) ≤ 4294967295) (fun _ i _ => xs.length - (intOf i).toNat)
  case atStart => exact ⟨0, Nat.zero_le _, rfl, rfl, by simp [tot]⟩
  case round =>
    obtain ⟨k, hk, rfl, rfl, hle⟩ := hrel
    by_cases hlt : k < xs.length
    · obtain ⟨b, o, rfl, h1⟩ := ha.words hlt
      have c1 := h1 k hlt
      have hx := xs[k].toNat_lt
      have HT : Hid (tot (xs.take (k + 1)) = tot (xs.take k) + xs[k].toNat) := tot_take_succ xs k hlt
      clear ha h1
      go_wp2
      · go_ret
        exact ⟨ret_int (sum_stop hlt ‹_›), rfl⟩
      · have hs : (xs[k].toNat : Int) ≤ 4294967295 - (tot (List.take k xs) : Int) := by assumption
        go_round
        case rel => exact ⟨k + 1, by omega, by go_num, by rw [HT.out]; go_num, by rw [HT.out]; omega⟩
        case measure => simp [intOf]; omega
    · obtain rfl : k = xs.length := by omega
      rw [List.take_length] at hle ⊢
      go_wp2
      go_ret
      exact ⟨ret_int (by unfold sumS; omega), rfl⟩

theorem sum_len (a : Option Addr) (n ca : Nat) (xs : List UInt32) (hx : xs.length = n) (w : World) (ha : CV w a (xs.map wv)) (hn : xs.length ≤ 140737488355328) :
    Calls Tryz.prog 40 #[.slice a n ca] w fun e w' => e = .returned (.int .u32 (sumS xs)) ∧ w = w' := by
  subst hx
  exact sum_any a ca xs w ha hn

end Go.Proofs.YtblpmgkagbiogaaGreat

namespace Go.Proofs.YtblpmgkagbiogaaGreat
open Go.RowKit
set_option maxRecDepth 100000

theorem info24 : (Tryz.prog.info? 24).map (fun i => (i.zero, i.size, i.bytes)) = some (some (.int .u32 0), 1, 4) := by kernel_rfl

/-- One list of bytes among many: where it lies, its capacity, its bytes. -/
structure Part where
  ao : Option Addr
  cap : Nat
  bs : List UInt8

def Part.v (p : Part) : Value := .slice p.ao p.bs.length p.cap

/-- It can be read. -/
def Part.ok (p : Part) (w : World) : Prop := Cells w p.ao p.bs ∧ (p.ao = none → p.cap = 0)

def joinS (ps : List Part) : List UInt8 := ps.flatMap (·.bs)

theorem joinS_succ (ps : List Part) (k : Nat) (hk : k < ps.length) : joinS (ps.take (k + 1)) = joinS (ps.take k) ++ ps[k].bs := by
  rw [List.take_succ_eq_append_getElem hk]; simp only [joinS, List.flatMap_append, List.flatMap_cons, List.flatMap_nil, List.append_nil]

theorem joinS_append (ps qs : List Part) : joinS (ps ++ qs) = joinS ps ++ joinS qs := by simp only [joinS, List.flatMap_append]

theorem joinS_le (ps : List Part) (k : Nat) : (joinS (ps.take k)).length ≤ (joinS ps).length := by
  have h := joinS_append (ps.take k) (ps.drop k)
  rw [List.take_append_drop] at h
  rw [h, List.length_append]
  omega

theorem CV.parts {w : World} {ao : Option Addr} {ps : List Part} (h : CV w ao (ps.map Part.v)) {k : Nat} (hk : k < ps.length) :
    ∃ b off, ao = some ⟨b, off, none⟩ ∧ ∀ i (hi : i < ps.length), w.cell? ⟨b, off + i, none⟩ = some (.slice ps[i].ao ps[i].bs.length ps[i].cap) := by
  obtain ⟨b, off, hao, hc⟩ := h.addr (k := k) (by simpa using hk)
  refine ⟨b, off, hao, fun i hi => ?_⟩
  rw [hc i (by simpa using hi)]
  simp [Part.v]

/-- The list of sizes while it is filled. -/
def SizesRel (w : World) (g n : Nat) (wr : World) : Prop :=
  ∃ xs : List UInt32, xs.length = n ∧ wr.ownsRow w.heap.size 24 1 (.slice (some ⟨g, 0, none⟩) n n) n (xs.map wv) ∧ w.grownBy wr none

theorem SizesRel.store {w wr : World} {g n : Nat} (h : SizesRel w g n wr) (i : Nat) (m : Nat) : SizesRel w g n (wr.setCell ⟨g, i, none⟩ (.int .u32 ((m : Int) % 4294967296))) := by
  obtain ⟨xs, hx, ho, hg⟩ := h
  refine ⟨xs.set i (UInt32.ofNat m), by simpa using hx, ?_, ?_⟩
  · have := ho.stored i (.int .u32 ((m : Int) % 4294967296))
    rw [List.map_set]
    have e : wv (UInt32.ofNat m) = .int .u32 ((m : Int) % 4294967296) := by simp [wv]
    rw [e]
    exact this.1
  · exact grown_setCell hg _ _ (.inr (ho.lt g rfl).1)

theorem SizesRel.cell {w wr : World} {g n : Nat} (h : SizesRel w g n wr) {i : Nat} (hi : i < n) : ∃ u, wr.cell? ⟨g, i, none⟩ = some u := by
  obtain ⟨xs, hx, ho, hg⟩ := h
  have := ho.cellAt i (by omega)
  refine ⟨wv (xs[i]'(by omega)), ?_⟩
  rw [this]
  simp [show i < xs.length by omega]

theorem SizesRel.free {w wr : World} {g n : Nat} (h : SizesRel w g n wr) (i : Nat) : wr.frozen? ⟨g, i, none⟩ = false := by
  obtain ⟨xs, hx, ho, hg⟩ := h
  exact ho.frozenAt i

theorem Part.ok.kept {p : Part} {w w' : World} (h : p.ok w) (hg : w.grownBy w' none) : p.ok w' := ⟨h.1.keptNone hg, h.2⟩

set_option maxHeartbeats 1000000 in
theorem wjoin_any (a : Option Addr) (ca : Nat) (ps : List Part) (w : World) (ha : CV w a (ps.map Part.v)) (hp : ∀ p ∈ ps, p.ok w) (hn : ps.length ≤ 1099511627776) (hm : (joinS ps).length ≤ 140737488355328) :
    Calls Tryz.prog 12 #[.slice a ps.length ca] w fun e w' => ∃ v, e = .returned v ∧ Owns w' w.heap.size v (joinS ps) ∧ w.grownBy w' none := by
  obtain ⟨i0, hi, hz0, hz1, hz2⟩ := info_parts info5
  obtain ⟨i1, ji, jz0, jz1, jz2⟩ := info_parts info24
  have HA : Hid (CV w a (ps.map Part.v)) := ha
  have HP : Hid (∀ p ∈ ps, p.ok w) := hp
  clear ha hp
  go_enter Tryz.func12, Tryz.ntmps12
  go_wp2_with (at_make; refine wpList_make_full _ rfl (.tmp 10) (.tmp 10) 65 rfl w.heap.size 24 i1 (.int .u32 0) 1 Tryz.underlying65 ji jz0 jz1 .i64 .i64 (ps.length : Int) (ps.length : Int) ps.length rfl rfl rfl rfl ?q1 ?q2 ?q3 ?q4)
  case q1 => rw [jz2]; omega
  case q2 => unfold maxLen; omega
  case q3 => exact Nat.le_refl _
  case q4 =>
    intro w1 h1 h2
    have R : SizesRel w w.heap.size ps.length w1 := by
      refine ⟨List.replicate ps.length 0, by simp, ?_, h2⟩
      rw [toList_madeCells_one] at h1
      simpa [wv] using h1
    clear h1 h2
    go_wp2
    go_loopw [14] (fun i wr => ∃ k : Nat, k ≤ ps.length ∧ i = .int .i64 k ∧ SizesRel w w.heap.size ps.length wr) (fun i _ => ps.length - (intOf i).toNat)
    case atStart => exact ⟨0, Nat.zero_le _, rfl, R⟩
    case round =>
      clear R
      obtain ⟨k, hk, rfl, R⟩ := hrel
      by_cases hlt : k < ps.length
      · obtain ⟨b, o, rfl, hc⟩ := HA.out.parts hlt
        have c0 := hc k hlt
        have hbl : b < w.heap.size := World.block_lt_of_cell? w _ c0
        have c1 : wr.cell? ⟨b, o + k, none⟩ = some (.slice ps[k].ao ps[k].bs.length ps[k].cap) := by
          obtain ⟨_, _, _, hg⟩ := R
          exact hg.cell c0 (by simp)
        obtain ⟨u, hu⟩ := R.cell hlt
        have hf := R.free k
        have R' := R.store k ps[k].bs.length
        have hlk : ps[k].bs.length ≤ (joinS ps).length := by
          have h1 := joinS_le ps (k + 1)
          rw [joinS_succ ps k hlt, List.length_append] at h1
          omega
        clear R hc c0
        go_wp2
        go_roundw
        case rel => exact ⟨k + 1, by omega, by go_num, R'⟩
        case measure => simp [intOf]; omega
      · obtain ⟨xs, hx, ho, hg⟩ := R
        obtain ⟨ao, cap, hv, hcv, _⟩ := CV.ofRow ho
        simp only [Value.slice.injEq] at hv
        obtain ⟨rfl, _, rfl⟩ := hv
        have HX : Hid (xs.length = ps.length) := hx
        have hxl : xs.length ≤ 140737488355328 := by omega
        have hsum : sumS xs ≤ 4294967295 := by unfold sumS; omega
        obtain rfl : k = ps.length := by omega
        clear hx ho
        go_wp2_with fail
        refine (sum_len _ _ _ xs HX.out _ hcv hxl).mono ?_
        rintro e w2 ⟨rfl, rfl⟩
        go_wp2_with (at_make; refine wpList_make_own _ rfl (.const (.int .i64 0)) (.tmp 28) 26 rfl w.heap.size 5 i0 (.int .u8 0) 1 Tryz.underlying26 hi hz0 hz1 .i64 .i64 _ (sumS xs) rfl rfl ?r1 ?r2 ?r3 ?r4 ?r5)
        case r1 => rfl
        case r2 => rw [hz2]; omega
        case r3 => unfold maxLen; omega
        case r4 => exact hg.size
        case r5 =>
          intro w3 h3 h4
          have G3 : w.grownBy w3 none := grown_trans hg h4
          clear hg h4 hcv hxl hlt hk
          have O3 : Owns w3 w.heap.size (.slice (some ⟨wr.heap.size, 0, none⟩) 0 (sumS xs)) (joinS (ps.take 0)) := h3
          clear h3
          go_wp2
          go_loopw [6, 32] (fun v i wr => ∃ k : Nat, k ≤ ps.length ∧ i = .int .i64 k ∧ Owns wr w.heap.size v (joinS (ps.take k)) ∧ w.grownBy wr none) (fun _ i _ => ps.length - (intOf i).toNat)
          case atStart => exact ⟨0, Nat.zero_le _, rfl, O3, G3⟩
          case round =>
            clear O3 G3
            obtain ⟨k, hk, rfl, O, G⟩ := hrel
            by_cases hlt : k < ps.length
            · obtain ⟨b, o, rfl, hc⟩ := HA.out.parts hlt
              have c0 := hc k hlt
              have c1 : wr.cell? ⟨b, o + k, none⟩ = some (.slice ps[k].ao ps[k].bs.length ps[k].cap) := G.cell c0 (by simp)
              have hok := (HP.out ps[k] (List.getElem_mem hlt)).kept G
              have hlk : (joinS (ps.take k)).length + ps[k].bs.length ≤ (joinS ps).length := by
                have h1 := joinS_le ps (k + 1)
                rw [joinS_succ ps k hlt, List.length_append] at h1
                exact h1
              have HJ : Hid (joinS (ps.take (k + 1)) = joinS (ps.take k) ++ ps[k].bs) := joinS_succ ps k hlt
              have HO := O
              clear hc c0
              go_wp2_with (at_builtin; refine wpList_append_rd rfl (.tmp 36) (.tmp 37) 26 rfl i0 Tryz.underlying26 hi hz0 hz1 hz2 w.heap.size _ (joinS (ps.take k)) rfl ?s1 ps[k].ao ps[k].cap ps[k].bs rfl hok.2 hok.1 ?s3 ?s4 ?s5)
              case s1 => exact HO
              case s3 => omega
              case s4 => exact G.size
              case s5 =>
                intro v' w' h1 h2
                have G' : w.grownBy w' none := grown_trans_new G h2 (fun x hx => (HO.lt x hx).1)
                rw [← HJ.out] at h1
                clear h2 G HO O hok
                go_wp2
                go_roundw
                case rel => exact ⟨k + 1, by omega, by go_num, h1, G'⟩
                case measure => simp [intOf]; omega
            · obtain rfl : k = ps.length := by omega
              rw [List.take_length] at O
              go_wp2
              go_ret
              exact ⟨_, rfl, O, G⟩

end Go.Proofs.YtblpmgkagbiogaaGreat
