/-
  Rows of two kinds apart; places behind others. A verdict in memory; what a run comes to. The landed run: a step, whatever the instruction; what is kept.
-/
import Derived.Test.YtencoknpocipbaaLotP6
import Derived.Test.YtencoknpocipbaaLotP14
import Derived.Test.YtencoknpocipbaaVgJ2
namespace Go.Proofs.Ytencoknpocipbaa
open Go.RowKit
set_option maxRecDepth 100000

/-- Rows of two kinds of elements: the one stays where the other is written. -/
theorem row_kinds {w w' : World} {base base' e e' size size' n n' : Nat} {v v' : Value} {vs vs' : List Value} (h : w.ownsRow base e size v n vs) (O : w.ownsRow base' e' size' v' n' vs') (he : e ≠ e') (K : w.grownBy w' v'.ownBlock) : w'.ownsRow base e size v n vs := by
  refine h.kept K ?_
  rcases h.2 with ⟨rfl, -⟩ | ⟨g, cap, cur, rfl, -, hg, -⟩
  · exact .inl rfl
  · right
    intro hh
    rcases O.2 with ⟨rfl, -⟩ | ⟨g', cap', cur', rfl, -, hg', -⟩
    · cases hh
    · simp only [Value.ownBlock, Option.some.injEq] at hh
      subst hh
      rw [hg] at hg'
      simp only [Option.some.injEq, Obj.cells.injEq] at hg'
      exact he hg'.2.1

theorem row_blk {w w' : World} {base e e' size n g m : Nat} {v : Value} {vs : List Value} (h : w.ownsRow base e size v n vs) (B : BlkN w e' g m) (he : e ≠ e') (K : w.grownBy w' (some g)) : w'.ownsRow base e size v n vs := by
  refine h.kept K ?_
  rcases h.2 with ⟨rfl, -⟩ | ⟨g1, cap, cur, rfl, -, hg, -⟩
  · exact .inl rfl
  · right
    intro hh
    simp only [Value.ownBlock, Option.some.injEq] at hh
    subst hh
    obtain ⟨cur', hb, -⟩ := B
    rw [hg] at hb
    simp only [Option.some.injEq, Obj.cells.injEq] at hb
    exact he hb.2.1

theorem blk_row {w w' : World} {base e e' size n g m : Nat} {v : Value} {vs : List Value} (B : BlkN w e' g m) (h : w.ownsRow base e size v n vs) (he : e ≠ e') (K : w.grownBy w' v.ownBlock) : BlkN w' e' g m := by
  refine B.kept K ?_
  rcases h.2 with ⟨rfl, -⟩ | ⟨g1, cap, cur, rfl, -, hg, -⟩
  · simp [Value.ownBlock]
  · intro hh
    simp only [Value.ownBlock, Option.some.injEq] at hh
    subst hh
    obtain ⟨cur', hb, -⟩ := B
    rw [hg] at hb
    simp only [Option.some.injEq, Obj.cells.injEq] at hb
    exact he hb.2.1

theorem vblk_set {w : World} {g i : Nat} {cur : Array Value} {e : TypeId} (h : w.heap[g]? = some (.cells cur e (0, 0))) (u : Value) : (w.setCell ⟨g, i, none⟩ u).heap[g]? = some (.cells (cur.setIfInBounds i u) e (0, 0)) := heap_setCell_same w g i cur e u h

/-- Three cells, written one behind the other. -/
theorem set3 {W : World} {g : Nat} {e : TypeId} (h : BlkN W e g 3) (v0 v1 v2 : Value) :
    let W3 := ((W.setCell ⟨g, 0, none⟩ v0).setCell ⟨g, 1, none⟩ v1).setCell ⟨g, 2, none⟩ v2
    W3.cell? ⟨g, 0, none⟩ = some v0 ∧ W3.cell? ⟨g, 1, none⟩ = some v1 ∧ W3.cell? ⟨g, 2, none⟩ = some v2 := by
  obtain ⟨cur, hh, hs⟩ := h
  have k := vblk_set (i := 2) (vblk_set (i := 1) (vblk_set (i := 0) hh v0) v1) v2
  intro W3
  have hc : ∀ i, W3.cell? ⟨g, i, none⟩ = (((cur.setIfInBounds 0 v0).setIfInBounds 1 v1).setIfInBounds 2 v2)[i]? := fun i => cell_of_row W3 g i _ _ _ k
  refine ⟨?_, ?_, ?_⟩ <;> rw [hc] <;> simp [hs]

/-- Places behind others. -/
def preV (ts : List Nat) (r : Nat × Int × List Nat) : Nat × Int × List Nat := (r.1, r.2.1, ts ++ r.2.2)
def zl (ts : List Nat) : List Int := ts.map fun n : Nat => (n : Int)

theorem preV_hd (ts : List Nat) (j : Nat) (r : Nat × Int × List Nat) : preV ts (hdV j r) = preV (ts ++ [j]) r := by
  simp [preV, hdV]

/-- Cells of an instruction that is boxed. -/
abbrev Bx (w : World) (b : Nat) (c t f k : Int) : Prop := w.cell? ⟨b, 0, none⟩ = some (.int .u16 c) ∧ w.cell? ⟨b, 1, none⟩ = some (.int .u8 t) ∧ w.cell? ⟨b, 2, none⟩ = some (.int .u8 f) ∧ w.cell? ⟨b, 3, none⟩ = some (.int .u32 k)

theorem bx_alloc (w : World) (e : TypeId) (c t f k : Int) : Bx (w.alloc (.cells #[.int .u16 c, .int .u8 t, .int .u8 f, .int .u32 k] e)) w.heap.size c t f k := by
  have h : ∀ i : Nat, (w.alloc (.cells #[.int .u16 c, .int .u8 t, .int .u8 f, .int .u32 k] e)).cell? ⟨w.heap.size, i, none⟩ = (#[.int .u16 c, .int .u8 t, .int .u8 f, .int .u32 k] : Array Value)[i]? := fun i => cell_of_row _ w.heap.size i _ _ _ (heap_alloc_new w _)
  exact ⟨h 0, h 1, h 2, h 3⟩

end Go.Proofs.Ytencoknpocipbaa

namespace Go.Proofs.Ytencoknpocipbaa
open Go.RowKit
set_option maxRecDepth 100000

/-- Three cells of a boxed verdict. -/
def V3 (w : World) (b : Nat) (v : Nat) (f s : Int) : Prop := w.cell? ⟨b, 0, none⟩ = some (.int .u32 (v : Int)) ∧ w.cell? ⟨b, 1, none⟩ = some (.int .i64 f) ∧ w.cell? ⟨b, 2, none⟩ = some (.int .i64 s)

theorem v3_alloc (w : World) (e : TypeId) (v : Nat) (f s : Int) : V3 (w.alloc (.cells #[.int .u32 (v : Int), .int .i64 f, .int .i64 s] e)) w.heap.size v f s := by
  have h : ∀ i : Nat, (w.alloc (.cells #[.int .u32 (v : Int), .int .i64 f, .int .i64 s] e)).cell? ⟨w.heap.size, i, none⟩ = (#[.int .u32 (v : Int), .int .i64 f, .int .i64 s] : Array Value)[i]? := fun i => cell_of_row _ w.heap.size i _ _ _ (heap_alloc_new w _)
  exact ⟨h 0, h 1, h 2⟩

theorem V3.kept {w w' : World} {b v : Nat} {f s : Int} {row : Option Nat} (h : V3 w b v f s) (K : w.grownBy w' row) (hne : some b ≠ row) : V3 w' b v f s :=
  ⟨K.cell h.1 hne, K.cell h.2.1 hne, K.cell h.2.2 hne⟩

theorem V3.keptNone {w w' : World} {b v : Nat} {f s : Int} (h : V3 w b v f s) (K : w.grownBy w' none) : V3 w' b v f s := h.kept K (by simp)

/-- What vm.Run leaves; what vm.Trace leaves. -/
def RunEnd (w : World) (v : Nat) (f s E : Int) (e : Ending) (w' : World) : Prop := e = .returned (.tuple #[.agg #[.int .u32 (v : Int), .int .i64 f, .int .i64 s], .int .i64 E]) ∧ w.grownBy w' none
def TraceEnd (w : World) (ts : List Nat) (E : Int) (e : Ending) (w' : World) : Prop := ∃ v, e = .returned (.tuple #[v, .int .i64 E]) ∧ w'.ownsRow w.heap.size 3 1 v ts.length ((zl ts).map iv) ∧ w.grownBy w' none

end Go.Proofs.Ytencoknpocipbaa

namespace Go.Proofs.Ytencoknpocipbaa
open Go.RowKit
set_option maxRecDepth 100000

theorem fault_safe {c : Int} {k : Nat} (h : faultV c k = 0) : knownB c = true ∧ (memB c = true → k < 16) := by
  unfold faultV at h
  split at h
  · simp at h
  · rename_i hk
    split at h
    · simp at h
    · rename_i hm
      refine ⟨by simpa using hk, fun hh => ?_⟩
      simp only [hh, Bool.true_and, decide_eq_true_eq] at hm
      omega

/-- What lies in memory through a run. -/
structure LoopI (w wr : World) (g d q : Nat) (a b : Option Addr) (ca cb n m : Nat) (R : Vn) : Prop where
  at' : VnAt wr g R
  hd : R.d = .slice (some ⟨d, 0, none⟩) 178 178
  hq : R.q = .slice (some ⟨q, 0, none⟩) 78 78
  hp : R.p = .slice a n ca
  hk : R.pk = .slice b m cb
  dt : DTab wr d
  qt : QTab wr q
  dg : d ≠ g
  qg : q ≠ g
  up : w.grownBy wr none
  new : w.heap.size ≤ g

theorem LoopI.step {w wr w' : World} {g d q : Nat} {a b : Option Addr} {ca cb n m : Nat} {R R' : Vn} (L : LoopI w wr g d q a b ca cb n m R) (h : VnAt w' g R') (K : wr.grownBy w' (some g)) (e1 : R'.d = R.d) (e2 : R'.q = R.q) (e3 : R'.p = R.p) (e4 : R'.pk = R.pk) : LoopI w w' g d q a b ca cb n m R' :=
  ⟨h, e1.trans L.hd, e2.trans L.hq, e3.trans L.hp, e4.trans L.hk, L.dt.grown K (fun e => L.dg (Option.some.inj e)), L.qt.grown K (fun e => L.qg (Option.some.inj e)), L.dg, L.qg, grown_trans_new L.up K (by intro x hx; obtain rfl := Option.some.inj hx; exact L.new), L.new⟩

theorem LoopI.kept {w wr w' : World} {g d q : Nat} {a b : Option Addr} {ca cb n m : Nat} {R : Vn} (L : LoopI w wr g d q a b ca cb n m R) (K : wr.grownBy w' none) : LoopI w w' g d q a b ca cb n m R :=
  ⟨L.at'.kept K, L.hd, L.hq, L.hp, L.hk, L.dt.grown K (by simp), L.qt.grown K (by simp), L.dg, L.qg, grown_trans L.up K, L.new⟩

/-- A run that goes on; one that is over. -/
def Going (xs : List In) (pk : List UInt8) (R : Vn) (ts : List Nat) (Res : Nat × Int × List Nat) : Prop :=
  R.o = false ∧ R.f = 0 ∧ R.v = 0 ∧ R.vf = 0 ∧ R.M.ok ∧ R.j < xs.length ∧ ts.length = R.s ∧ R.s ≤ R.j ∧ ∃ n, xs.length ≤ R.j + n ∧ preV ts (runF xs pk n R.j R.M) = Res
def Over (R : Vn) (ts : List Nat) (Res : Nat × Int × List Nat) : Prop := R.o = true ∧ ts.length = R.s ∧ Res = (R.v, R.vf, ts)

theorem uses_6 : usesK (6 : Int) = true := by decide
theorem uses_22 : usesK (22 : Int) = false := by decide

theorem step_any (a b : Option Addr) (ca cb : Nat) (xs : List In) (pk : List UInt8) (w wr : World) (g d q : Nat) (R : Vn) (ts : List Nat) (Res : Nat × Int × List Nat) (hX : CV w a (flat xs)) (hP : Cells w b pk) (hpk : pk.length ≤ 65536)
    (hT : ∀ j (hj : j < xs.length), badV xs.length j xs[j] = 0) (hT2 : lastB xs = true) (hn : xs.length ≤ 4096) (L : LoopI w wr g d q a b ca cb xs.length pk.length R) (G : Going xs pk R ts Res) :
    Calls Try.prog 23 #[.pointer (some ⟨g, 0, none⟩)] wr fun e w' => e = .returned (.tuple #[]) ∧ ∃ R', LoopI w w' g d q a b ca cb xs.length pk.length R' ∧ ((Going xs pk R' (ts ++ [R.j]) Res ∧ R.j < R'.j) ∨ Over R' (ts ++ [R.j]) Res) ∧ wr.grownBy w' (some g) := by
  obtain ⟨g1, g2, g3, g4, g5, g6, g7, g8, n, g9, g10⟩ := G
  obtain ⟨ba, oa, rfl, hc⟩ := (hX.keptNone L.up).insns g6
  obtain ⟨c0, c1, c2, c3⟩ := hc R.j g6
  obtain ⟨n, rfl⟩ : ∃ m, n = m + 1 := ⟨n - 1, by omega⟩
  have z1 := bad_zero (hT R.j g6)
  obtain ⟨p1, p2⟩ := jumpBad_out z1.2
  obtain ⟨kn, hq16⟩ := fault_safe z1.1
  have z2 := fun hr => last_ret hT2 g6 hr
  have b0 := xs[R.j].code.toNat_lt
  have b1 := xs[R.j].jt.toNat_lt
  have b2 := xs[R.j].jf.toNat_lt
  have b3 := xs[R.j].k.toNat_lt
  have hlen : (ts ++ [R.j]).length = R.s + 1 := by simp [g7]
  by_cases h6 : ((xs[R.j].code.toNat : Int) == 6) = true
  · refine (step_ret g ba oa ca xs.length _ _ _ _ R wr L.at' L.hp g6 hn (by omega) (by omega) c0 c1 c2 c3 (by rw [h6]; rfl)).mono ?_
    rintro e w' ⟨rfl, r, K⟩
    refine ⟨rfl, _, L.step r K rfl rfl rfl rfl, .inr ⟨rfl, hlen, ?_⟩, K⟩
    rw [← g10, runF_retK g6 h6]
    have hu : usesK (xs[R.j].code.toNat : Int) = true := by rw [beq_iff_eq.1 h6]; exact uses_6
    show (xs[R.j].k.toNat, (0 : Int), ts ++ [R.j]) = (byV _ _ _, R.vf, ts ++ [R.j])
    rw [byV, hu, g4]
    rfl
  have h6 : ((xs[R.j].code.toNat : Int) == 6) = false := by simpa using h6
  by_cases h22 : ((xs[R.j].code.toNat : Int) == 22) = true
  · refine (step_ret g ba oa ca xs.length _ _ _ _ R wr L.at' L.hp g6 hn (by omega) (by omega) c0 c1 c2 c3 (by rw [h22]; simp)).mono ?_
    rintro e w' ⟨rfl, r, K⟩
    refine ⟨rfl, _, L.step r K rfl rfl rfl rfl, .inr ⟨rfl, hlen, ?_⟩, K⟩
    rw [← g10, runF_retA g6 h6 h22]
    have hu : usesK (xs[R.j].code.toNat : Int) = false := by rw [beq_iff_eq.1 h22]; exact uses_22
    show (R.M.a, (0 : Int), ts ++ [R.j]) = (byV _ _ _, R.vf, ts ++ [R.j])
    rw [byV, hu, g4]
    rfl
  have h22 : ((xs[R.j].code.toNat : Int) == 22) = false := by simpa using h22
  have hnx := z2 (by simp only [retB, h6, h22]; rfl)
  by_cases h5 : ((xs[R.j].code.toNat : Int) == 5) = true
  · have hkk := p1 h5
    refine (step_jump g ba oa ca xs.length _ _ _ _ R wr L.at' L.hp g6 hn (by omega) (by omega) c0 c1 c2 c3 xs[R.j].k.toNat (by omega) (fun W K h => ?_) (by rw [h5]; rfl)).mono ?_
    · have := leap_ja g xs[R.j].code.toNat xs[R.j].jt.toNat xs[R.j].jf.toNat xs[R.j].k.toNat R.next W (by omega) h5
      rw [leapV, if_pos h5] at this
      exact this
    · rintro e w' ⟨rfl, r, K⟩
      refine ⟨rfl, _, L.step r K rfl rfl rfl rfl, .inl ⟨⟨g1, g2, g3, g4, g5, ?_, hlen, ?_, n, ?_, ?_⟩, ?_⟩, K⟩
      · show R.j + 1 + xs[R.j].k.toNat < xs.length; omega
      · show R.s + 1 ≤ R.j + 1 + xs[R.j].k.toNat; omega
      · show xs.length ≤ R.j + 1 + xs[R.j].k.toNat + n; omega
      · rw [← g10, runF_ja g6 h6 h22 h5, preV_hd]; rfl
      · show R.j < R.j + 1 + xs[R.j].k.toNat; omega
  have h5 : ((xs[R.j].code.toNat : Int) == 5) = false := by simpa using h5
  cases hjb : jumpB (xs[R.j].code.toNat : Int) with
  | true =>
    obtain ⟨hpt, hpf⟩ := p2 hjb
    have hgl : leapV xs[R.j].code.toNat xs[R.j].jt.toNat xs[R.j].jf.toNat xs[R.j].k.toNat R.M = goalV xs[R.j] R.M := by
      rw [leapV, if_neg (by rw [h5]; simp)]
      rfl
    have hgb : goalV xs[R.j] R.M < xs.length - 1 - R.j ∧ goalV xs[R.j] R.M < 256 := by
      unfold goalV
      split
      · exact ⟨hpt, by omega⟩
      · exact ⟨hpf, by omega⟩
    refine (step_jump g ba oa ca xs.length _ _ _ _ R wr L.at' L.hp g6 hn (by omega) (by omega) c0 c1 c2 c3 (goalV xs[R.j] R.M) (by omega) (fun W K h => ?_) (by rw [hjb]; simp)).mono ?_
    · have := leap_q g q xs[R.j].code.toNat xs[R.j].jt.toNat xs[R.j].jf.toNat xs[R.j].k.toNat R.next W h L.hq (L.qt.grown K (fun e => L.qg (Option.some.inj e))) g5 (by omega) (by omega) (by omega) h5 hjb
      rw [show leapV xs[R.j].code.toNat xs[R.j].jt.toNat xs[R.j].jf.toNat xs[R.j].k.toNat R.next.M = goalV xs[R.j] R.M from hgl] at this
      exact this
    · rintro e w' ⟨rfl, r, K⟩
      refine ⟨rfl, _, L.step r K rfl rfl rfl rfl, .inl ⟨⟨g1, g2, g3, g4, g5, ?_, hlen, ?_, n, ?_, ?_⟩, ?_⟩, K⟩
      · show R.j + 1 + goalV xs[R.j] R.M < xs.length; omega
      · show R.s + 1 ≤ R.j + 1 + goalV xs[R.j] R.M; omega
      · show xs.length ≤ R.j + 1 + goalV xs[R.j] R.M + n; omega
      · rw [← g10, runF_jump g6 h6 h22 h5 hjb, preV_hd]; rfl
      · show R.j < R.j + 1 + goalV xs[R.j] R.M; omega
  | false =>
    obtain ⟨k6, k5⟩ := class5_other kn h6 h22 h5 hjb
    refine (step_do g ba oa ca xs.length _ _ _ _ R wr L.at' L.hp g6 hn (by omega) (by omega) c0 c1 c2 c3 (fun M => (stepV (xs[R.j].code.toNat : Int) xs[R.j].k.toNat pk R.M).2 = 0 → M = (stepV (xs[R.j].code.toNat : Int) xs[R.j].k.toNat pk R.M).1) (stepV (xs[R.j].code.toNat : Int) xs[R.j].k.toNat pk R.M).2 (fun W K h => ?_) k6 k5).mono ?_
    · have L2 := L.step h K rfl rfl rfl rfl
      exact mdo_any xs[R.j].code.toNat b cb pk g d xs[R.j].jt.toNat xs[R.j].jf.toNat xs[R.j].k.toNat R.next.rn W h L.hd L.dg L2.dt L.hk (hP.keptNone L2.up) hpk g2 g5 (by omega) kn h6 h22 h5 hjb hq16
    · rintro e w' ⟨rfl, ⟨M', hg, r⟩, K⟩
      refine ⟨rfl, _, L.step r K rfl rfl rfl rfl, ?_, K⟩
      have hrun := runF_step (n := n) (M := R.M) (pk := pk) g6 h6 h22 h5 hjb
      by_cases hz : (stepV (xs[R.j].code.toNat : Int) xs[R.j].k.toNat pk R.M).2 = 0
      · rw [if_pos hz] at hrun
        obtain rfl := hg hz
        refine .inl ⟨⟨?_, hz, g3, hz, stepV_ok g5 (by omega) (by omega), ?_, hlen, ?_, n, ?_, ?_⟩, ?_⟩
        · show ((stepV (xs[R.j].code.toNat : Int) xs[R.j].k.toNat pk R.M).2 != 0) = false
          rw [hz]; rfl
        · show R.j + 1 < xs.length; omega
        · show R.s + 1 ≤ R.j + 1; omega
        · show xs.length ≤ R.j + 1 + n; omega
        · rw [← g10, hrun, preV_hd]; rfl
        · show R.j < R.j + 1; omega
      · rw [if_neg hz] at hrun
        refine .inr ⟨?_, hlen, ?_⟩
        · show ((stepV (xs[R.j].code.toNat : Int) xs[R.j].k.toNat pk R.M).2 != 0) = true
          rw [bne_iff_ne]; exact hz
        · rw [← g10, hrun]
          show (0, (stepV (xs[R.j].code.toNat : Int) xs[R.j].k.toNat pk R.M).2, ts ++ [R.j]) = (R.v, (stepV (xs[R.j].code.toNat : Int) xs[R.j].k.toNat pk R.M).2, ts ++ [R.j])
          rw [g3]

end Go.Proofs.Ytencoknpocipbaa
