/-
  The landed run: a step, whatever the instruction; what is kept. The landed run: its beginning.
-/
import Derived.Test.YtencoknpocipbaaGreatLotP39
import Derived.Test.YtencoknpocipbaaGreatLotP10
import Derived.Test.YtencoknpocipbaaGreatLotP36
namespace Go.Proofs.YtencoknpocipbaaGreat
open Go.RowKit
set_option maxRecDepth 100000

theorem fault_safe {c : Int} {k : Nat} (h : faultV c k = 0) : knownB c = true ∧ (memB c = true → k < 16) := by
  unfold faultV at h
  split at h
  · simp at h
  · rename_i hk
    split at h
    · simp at h
    · rename_i hm
      refine ⟨by simpa using hk, fun hh => ?_⟩
      simp only [hh, Bool.true_and, decide_eq_true_eq] at hm
      omega

/-- What lies in memory through a run. -/
structure LoopI (w wr : World) (g d q : Nat) (a b : Option Addr) (ca cb n m : Nat) (R : Vn) : Prop where
  at' : VnAt wr g R
  hd : R.d = .slice (some ⟨d, 0, none⟩) 178 178
  hq : R.q = .slice (some ⟨q, 0, none⟩) 78 78
  hp : R.p = .slice a n ca
  hk : R.pk = .slice b m cb
  dt : DTab wr d
  qt : QTab wr q
  dg : d ≠ g
  qg : q ≠ g
  up : w.grownBy wr none
  new : w.heap.size ≤ g

theorem LoopI.step {w wr w' : World} {g d q : Nat} {a b : Option Addr} {ca cb n m : Nat} {R R' : Vn} (L : LoopI w wr g d q a b ca cb n m R) (h : VnAt w' g R') (K : wr.grownBy w' (some g)) (e1 : R'.d = R.d) (e2 : R'.q = R.q) (e3 : R'.p = R.p) (e4 : R'.pk = R.pk) : LoopI w w' g d q a b ca cb n m R' :=
  ⟨h, e1.trans L.hd, e2.trans L.hq, e3.trans L.hp, e4.trans L.hk, L.dt.grown K (fun e => L.dg (Option.some.inj e)), L.qt.grown K (fun e => L.qg (Option.some.inj e)), L.dg, L.qg, grown_trans_new L.up K (by intro x hx; obtain rfl := Option.some.inj hx; exact L.new), L.new⟩

theorem LoopI.kept {w wr w' : World} {g d q : Nat} {a b : Option Addr} {ca cb n m : Nat} {R : Vn} (L : LoopI w wr g d q a b ca cb n m R) (K : wr.grownBy w' none) : LoopI w w' g d q a b ca cb n m R :=
  ⟨L.at'.kept K, L.hd, L.hq, L.hp, L.hk, L.dt.grown K (by simp), L.qt.grown K (by simp), L.dg, L.qg, grown_trans L.up K, L.new⟩

/-- A run that goes on; one that is over. -/
def Going (xs : List In) (pk : List UInt8) (R : Vn) (ts : List Nat) (Res : Nat × Int × List Nat) : Prop :=
  R.o = false ∧ R.f = 0 ∧ R.v = 0 ∧ R.vf = 0 ∧ R.M.ok ∧ R.j < xs.length ∧ ts.length = R.s ∧ R.s ≤ R.j ∧ ∃ n, xs.length ≤ R.j + n ∧ preV ts (runF xs pk n R.j R.M) = Res
def Over (R : Vn) (ts : List Nat) (Res : Nat × Int × List Nat) : Prop := R.o = true ∧ ts.length = R.s ∧ Res = (R.v, R.vf, ts)

theorem uses_6 : usesK (6 : Int) = true := by decide
theorem uses_22 : usesK (22 : Int) = false := by decide

theorem step_any (a b : Option Addr) (ca cb : Nat) (xs : List In) (pk : List UInt8) (w wr : World) (g d q : Nat) (R : Vn) (ts : List Nat) (Res : Nat × Int × List Nat) (hX : CV w a (flat xs)) (hP : Cells w b pk) (hpk : pk.length ≤ 65536)
    (hT : ∀ j (hj : j < xs.length), badV xs.length j xs[j] = 0) (hT2 : lastB xs = true) (hn : xs.length ≤ 4096) (L : LoopI w wr g d q a b ca cb xs.length pk.length R) (G : Going xs pk R ts Res) :
    Calls Tryz.prog 45 #[.pointer (some ⟨g, 0, none⟩)] wr fun e w' => e = .returned (.tuple #[]) ∧ ∃ R', LoopI w w' g d q a b ca cb xs.length pk.length R' ∧ ((Going xs pk R' (ts ++ [R.j]) Res ∧ R.j < R'.j) ∨ Over R' (ts ++ [R.j]) Res) ∧ wr.grownBy w' (some g) := by
  obtain ⟨g1, g2, g3, g4, g5, g6, g7, g8, n, g9, g10⟩ := G
  obtain ⟨ba, oa, rfl, hc⟩ := (hX.keptNone L.up).insns g6
  obtain ⟨c0, c1, c2, c3⟩ := hc R.j g6
  obtain ⟨n, rfl⟩ : ∃ m, n = m + 1 := ⟨n - 1, by omega⟩
  have z1 := bad_zero (hT R.j g6)
  obtain ⟨p1, p2⟩ := jumpBad_out z1.2
  obtain ⟨kn, hq16⟩ := fault_safe z1.1
  have z2 := fun hr => last_ret hT2 g6 hr
  have b0 := xs[R.j].code.toNat_lt
  have b1 := xs[R.j].jt.toNat_lt
  have b2 := xs[R.j].jf.toNat_lt
  have b3 := xs[R.j].k.toNat_lt
  have hlen : (ts ++ [R.j]).length = R.s + 1 := by simp [g7]
  by_cases h6 : ((xs[R.j].code.toNat : Int) == 6) = true
  · refine (step_ret g ba oa ca xs.length _ _ _ _ R wr L.at' L.hp g6 hn (by omega) (by omega) c0 c1 c2 c3 (by rw [h6]; rfl)).mono ?_
    rintro e w' ⟨rfl, r, K⟩
    refine ⟨rfl, _, L.step r K rfl rfl rfl rfl, .inr ⟨rfl, hlen, ?_⟩, K⟩
    rw [← g10, runF_retK g6 h6]
    have hu : usesK (xs[R.j].code.toNat : Int) = true := by rw [beq_iff_eq.1 h6]; exact uses_6
    show (xs[R.j].k.toNat, (0 : Int), ts ++ [R.j]) = (byV _ _ _, R.vf, ts ++ [R.j])
    rw [byV, hu, g4]
    rfl
  have h6 : ((xs[R.j].code.toNat : Int) == 6) = false := by simpa using h6
  by_cases h22 : ((xs[R.j].code.toNat : Int) == 22) = true
  · refine (step_ret g ba oa ca xs.length _ _ _ _ R wr L.at' L.hp g6 hn (by omega) (by omega) c0 c1 c2 c3 (by rw [h22]; simp)).mono ?_
    rintro e w' ⟨rfl, r, K⟩
    refine ⟨rfl, _, L.step r K rfl rfl rfl rfl, .inr ⟨rfl, hlen, ?_⟩, K⟩
    rw [← g10, runF_retA g6 h6 h22]
    have hu : usesK (xs[R.j].code.toNat : Int) = false := by rw [beq_iff_eq.1 h22]; exact uses_22
    show (R.M.a, (0 : Int), ts ++ [R.j]) = (byV _ _ _, R.vf, ts ++ [R.j])
    rw [byV, hu, g4]
    rfl
  have h22 : ((xs[R.j].code.toNat : Int) == 22) = false := by simpa using h22
  have hnx := z2 (by simp only [retB, h6, h22]; rfl)
  by_cases h5 : ((xs[R.j].code.toNat : Int) == 5) = true
  · have hkk := p1 h5
    refine (step_jump g ba oa ca xs.length _ _ _ _ R wr L.at' L.hp g6 hn (by omega) (by omega) c0 c1 c2 c3 xs[R.j].k.toNat (by omega) (fun W K h => ?_) (by rw [h5]; rfl)).mono ?_
    · have := leap_ja g xs[R.j].code.toNat xs[R.j].jt.toNat xs[R.j].jf.toNat xs[R.j].k.toNat R.next W (by omega) h5
      rw [leapV, if_pos h5] at this
      exact this
    · rintro e w' ⟨rfl, r, K⟩
      refine ⟨rfl, _, L.step r K rfl rfl rfl rfl, .inl ⟨⟨g1, g2, g3, g4, g5, ?_, hlen, ?_, n, ?_, ?_⟩, ?_⟩, K⟩
      · show R.j + 1 + xs[R.j].k.toNat < xs.length; omega
      · show R.s + 1 ≤ R.j + 1 + xs[R.j].k.toNat; omega
      · show xs.length ≤ R.j + 1 + xs[R.j].k.toNat + n; omega
      · rw [← g10, runF_ja g6 h6 h22 h5, preV_hd]; rfl
      · show R.j < R.j + 1 + xs[R.j].k.toNat; omega
  have h5 : ((xs[R.j].code.toNat : Int) == 5) = false := by simpa using h5
  cases hjb : jumpB (xs[R.j].code.toNat : Int) with
  | true =>
    obtain ⟨hpt, hpf⟩ := p2 hjb
    have hgl : leapV xs[R.j].code.toNat xs[R.j].jt.toNat xs[R.j].jf.toNat xs[R.j].k.toNat R.M = goalV xs[R.j] R.M := by
      rw [leapV, if_neg (by rw [h5]; simp)]
      rfl
    have hgb : goalV xs[R.j] R.M < xs.length - 1 - R.j ∧ goalV xs[R.j] R.M < 256 := by
      unfold goalV
      split
      · exact ⟨hpt, by omega⟩
      · exact ⟨hpf, by omega⟩
    refine (step_jump g ba oa ca xs.length _ _ _ _ R wr L.at' L.hp g6 hn (by omega) (by omega) c0 c1 c2 c3 (goalV xs[R.j] R.M) (by omega) (fun W K h => ?_) (by rw [hjb]; simp)).mono ?_
    · have := leap_q g q xs[R.j].code.toNat xs[R.j].jt.toNat xs[R.j].jf.toNat xs[R.j].k.toNat R.next W h L.hq (L.qt.grown K (fun e => L.qg (Option.some.inj e))) g5 (by omega) (by omega) (by omega) h5 hjb
      rw [show leapV xs[R.j].code.toNat xs[R.j].jt.toNat xs[R.j].jf.toNat xs[R.j].k.toNat R.next.M = goalV xs[R.j] R.M from hgl] at this
      exact this
    · rintro e w' ⟨rfl, r, K⟩
      refine ⟨rfl, _, L.step r K rfl rfl rfl rfl, .inl ⟨⟨g1, g2, g3, g4, g5, ?_, hlen, ?_, n, ?_, ?_⟩, ?_⟩, K⟩
      · show R.j + 1 + goalV xs[R.j] R.M < xs.length; omega
      · show R.s + 1 ≤ R.j + 1 + goalV xs[R.j] R.M; omega
      · show xs.length ≤ R.j + 1 + goalV xs[R.j] R.M + n; omega
      · rw [← g10, runF_jump g6 h6 h22 h5 hjb, preV_hd]; rfl
      · show R.j < R.j + 1 + goalV xs[R.j] R.M; omega
  | false =>
    obtain ⟨k6, k5⟩ := class5_other kn h6 h22 h5 hjb
    refine (step_do g ba oa ca xs.length _ _ _ _ R wr L.at' L.hp g6 hn (by omega) (by omega) c0 c1 c2 c3 (fun M => (stepV (xs[R.j].code.toNat : Int) xs[R.j].k.toNat pk R.M).2 = 0 → M = (stepV (xs[R.j].code.toNat : Int) xs[R.j].k.toNat pk R.M).1) (stepV (xs[R.j].code.toNat : Int) xs[R.j].k.toNat pk R.M).2 (fun W K h => ?_) k6 k5).mono ?_
    · have L2 := L.step h K rfl rfl rfl rfl
      exact mdo_any xs[R.j].code.toNat b cb pk g d xs[R.j].jt.toNat xs[R.j].jf.toNat xs[R.j].k.toNat R.next.rn W h L.hd L.dg L2.dt L.hk (hP.keptNone L2.up) hpk g2 g5 (by omega) kn h6 h22 h5 hjb hq16
    · rintro e w' ⟨rfl, ⟨M', hg, r⟩, K⟩
      refine ⟨rfl, _, L.step r K rfl rfl rfl rfl, ?_, K⟩
      have hrun := runF_step (n := n) (M := R.M) (pk := pk) g6 h6 h22 h5 hjb
      by_cases hz : (stepV (xs[R.j].code.toNat : Int) xs[R.j].k.toNat pk R.M).2 = 0
      · rw [if_pos hz] at hrun
        obtain rfl := hg hz
        refine .inl ⟨⟨?_, hz, g3, hz, stepV_ok g5 (by omega) (by omega), ?_, hlen, ?_, n, ?_, ?_⟩, ?_⟩
        · show ((stepV (xs[R.j].code.toNat : Int) xs[R.j].k.toNat pk R.M).2 != 0) = false
          rw [hz]; rfl
        · show R.j + 1 < xs.length; omega
        · show R.s + 1 ≤ R.j + 1; omega
        · show xs.length ≤ R.j + 1 + n; omega
        · rw [← g10, hrun, preV_hd]; rfl
        · show R.j < R.j + 1; omega
      · rw [if_neg hz] at hrun
        refine .inr ⟨?_, hlen, ?_⟩
        · show ((stepV (xs[R.j].code.toNat : Int) xs[R.j].k.toNat pk R.M).2 != 0) = true
          rw [bne_iff_ne]; exact hz
        · rw [← g10, hrun]
          show (0, (stepV (xs[R.j].code.toNat : Int) xs[R.j].k.toNat pk R.M).2, ts ++ [R.j]) = (R.v, (stepV (xs[R.j].code.toNat : Int) xs[R.j].k.toNat pk R.M).2, ts ++ [R.j])
          rw [g3]

end Go.Proofs.YtencoknpocipbaaGreat

namespace Go.Proofs.YtencoknpocipbaaGreat
open Go.RowKit
set_option maxRecDepth 100000

def runA (a b : Option Addr) (m ca n cb d q : Nat) : Array Value := #[.int .u32 0, .int .u32 0, .int .u32 0, .int .u32 0, .int .u32 0, .int .u32 0, .int .u32 0, .int .u32 0, .int .u32 0, .int .u32 0, .int .u32 0, .int .u32 0, .int .u32 0, .int .u32 0, .int .u32 0, .int .u32 0, .int .u32 0, .int .u32 0, .slice b n cb, .int .i64 0, .slice (some ⟨d, 0, none⟩) 178 178, .slice (some ⟨q, 0, none⟩) 78 78, .slice a m ca, .int .i64 0, .bool false, .int .u32 0, .int .i64 0, .int .i64 0]
def runZ : Array Value := #[.int .u32 0, .int .u32 0, .int .u32 0, .int .u32 0, .int .u32 0, .int .u32 0, .int .u32 0, .int .u32 0, .int .u32 0, .int .u32 0, .int .u32 0, .int .u32 0, .int .u32 0, .int .u32 0, .int .u32 0, .int .u32 0, .int .u32 0, .int .u32 0, .slice none 0 0, .int .i64 0, .slice none 0 0, .slice none 0 0, .slice none 0 0, .int .i64 0, .bool false, .int .u32 0, .int .i64 0, .int .i64 0]
theorem runA_all (a b : Option Addr) (m ca n cb d q : Nat) : (runA a b m ca n cb d q).all (·.oneCell') = true := by simp [runA, Value.oneCell']
theorem runZ_all : runZ.all (·.oneCell') = true := by simp [runZ, Value.oneCell']

theorem size103 : (Tryz.prog.info? 103).map (·.size) = some 28 := by kernel_rfl

/-- A run at its beginning. -/
def run0 (a b : Option Addr) (m ca n cb d q : Nat) : Vn := ⟨mc0, .slice b n cb, 0, .slice (some ⟨d, 0, none⟩) 178 178, .slice (some ⟨q, 0, none⟩) 78 78, .slice a m ca, 0, false, 0, 0, 0⟩
theorem run0_arr (a b : Option Addr) (m ca n cb d q : Nat) : (run0 a b m ca n cb d q).arr = runA a b m ca n cb d q := rfl

theorem loop0 {a b : Option Addr} {m ca n cb d q : Nat} (w w1 : World) (U : w.grownBy w1 none) (hd : d < w1.heap.size) (hq : q < w1.heap.size) (T : DTab w1 d) (Q : QTab w1 q) :
    LoopI w (w1.alloc (.cells (runA a b m ca n cb d q) 103)) w1.heap.size d q a b ca cb m n (run0 a b m ca n cb d q) := by
  have K : w1.grownBy (w1.alloc (.cells (runA a b m ca n cb d q) 103)) none := World.grownBy_alloc _ _ _
  exact ⟨⟨GVt.alloc w1 103 (runA a b m ca n cb d q), rfl⟩, rfl, rfl, rfl, rfl, T.grown K (by simp), Q.grown K (by simp), by omega, by omega, grown_trans U K, U.size⟩
theorem LoopI.rebase {w W wr : World} {g d q : Nat} {a b : Option Addr} {ca cb n m : Nat} {R : Vn} (L : LoopI W wr g d q a b ca cb n m R) (K : w.grownBy W none) : LoopI w wr g d q a b ca cb n m R :=
  ⟨L.at', L.hd, L.hq, L.hp, L.hk, L.dt, L.qt, L.dg, L.qg, grown_trans K L.up, Nat.le_trans K.size L.new⟩

set_option maxHeartbeats 1000000 in
theorem vgthrough_any (a b : Option Addr) (m ca n cb : Nat) (w : World) :
    Calls Tryz.prog 44 #[.slice a m ca, .slice b n cb] w fun e w' => ∃ g d q, e = .returned (.pointer (some ⟨g, 0, none⟩)) ∧ LoopI w w' g d q a b ca cb m n (run0 a b m ca n cb d q) := by
  go_enter Tryz.func44, Tryz.ntmps44
  go_wp2_with fail
  refine (gover_any b n cb _).mono ?_
  rintro e w1 ⟨d, q, rfl, T, Q, hd, hq, K⟩
  simp only [machA]
  go_wp2
  go_ret
  exact ⟨w1.heap.size, d, q, rfl, loop0 w w1 K (tab_lt T) (qtab_lt Q) T Q⟩

/-- What a run begins with. -/
def BeginPost (w : World) (a b : Option Addr) (m ca n cb : Nat) (E : Int) (e : Ending) (w' : World) : Prop :=
  (E = 0 ∧ ∃ g d q, e = .returned (.tuple #[.pointer (some ⟨g, 0, none⟩), .int .i64 0]) ∧ LoopI w w' g d q a b ca cb m n (run0 a b m ca n cb d q)) ∨ (E ≠ 0 ∧ e = .returned (.tuple #[.pointer none, .int .i64 E]) ∧ w.grownBy w' none)

set_option maxHeartbeats 1000000 in
theorem begin_any (a b : Option Addr) (ca cb : Nat) (xs : List In) (pk : List UInt8) (w : World) (ha : CV w a (flat xs)) :
    Calls Tryz.prog 22 #[.slice a xs.length ca, .slice b pk.length cb] w fun e w' => BeginPost w a b xs.length ca pk.length cb (runE xs pk) e w' := by
  obtain ⟨P, E, hPE⟩ : ∃ P E, checkV xs = (P, E) := ⟨_, _, rfl⟩
  have HC : Calls Tryz.prog 17 #[.slice a xs.length ca] w fun e w' => e = .returned (.tuple #[.int .i64 (P : Int), .int .i64 E]) ∧ w.grownBy w' none := by
    have k := check_any a ca xs w ha
    rw [hPE] at k
    exact k
  clear ha
  by_cases hE : E = 0
  · subst hE
    by_cases hl : 65536 < pk.length
    · have e : runE xs pk = 51 := by simp [runE, hPE, hl]
      rw [e]
      have hl' : (65536 : Int) < (pk.length : Int) := by omega
      clear hPE
      go_enter Tryz.func22, Tryz.ntmps22
      go_wp2_with fail
      refine HC.mono ?_
      rintro e w1 ⟨rfl, K1⟩
      clear HC
      go_wp2
      go_ret2
      exact .inr ⟨by decide, rfl, K1⟩
    · have e : runE xs pk = 0 := by simp [runE, hPE, hl]
      rw [e]
      have hl' : ¬ ((65536 : Int) < (pk.length : Int)) := by omega
      clear hPE
      go_enter Tryz.func22, Tryz.ntmps22
      go_wp2_with fail
      refine HC.mono ?_
      rintro e w1 ⟨rfl, K1⟩
      clear HC
      go_wp2_with fail
      refine (vgthrough_any a b xs.length ca pk.length cb _).mono ?_
      rintro e w2 ⟨g, d, q, rfl, L⟩
      have HL : Hid (LoopI w w2 g d q a b ca cb xs.length pk.length (run0 a b xs.length ca pk.length cb d q)) := L.rebase K1
      clear L
      go_wp2
      go_ret2
      exact .inl ⟨rfl, g, d, q, rfl, HL.out⟩
  · have e : runE xs pk = 50 := by simp [runE, hPE, hE]
    rw [e]
    have hEb : (E != 0) = true := by rw [bne_iff_ne]; exact hE
    clear hPE hE
    go_enter Tryz.func22, Tryz.ntmps22
    go_wp2_with fail
    refine HC.mono ?_
    rintro e w1 ⟨rfl, K1⟩
    clear HC
    go_wp2
    go_ret2
    exact .inr ⟨by decide, rfl, K1⟩

end Go.Proofs.YtencoknpocipbaaGreat
