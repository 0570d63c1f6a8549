/-
  Two landed queues side by side.
-/
import Derived.Test.YtlfjpbedjmnpaaaQuZ
import Derived.Test.YtlfjpbedjmnpaaaQuR
import Derived.Test.YtlfjpbedjmnpaaaLow
namespace Go.Proofs.Ytlfjpbedjmnpaaa
open Go.RowKit
set_option maxRecDepth 100000

/-- Two queues, made behind W, that hold what cs and ds say. -/
structure Duo (W wr : World) (gp gq : Nat) (p q : Lq) (cs ds : List Qc) : Prop where
  a : LqAt wr W.heap.size p
  b : LqAt wr W.heap.size q
  ga : p.g = gp
  gb : q.g = gq
  ca : p.abs = cs
  cb : q.abs = ds
  dis : ∀ x, p.foot x → ¬ q.foot x
  gw : W.grownBy wr none

theorem Duo.swap {W wr : World} {gp gq : Nat} {p q : Lq} {cs ds : List Qc} (h : Duo W wr gp gq p q cs ds) : Duo W wr gq gp q p ds cs := ⟨h.b, h.a, h.gb, h.ga, h.cb, h.ca, fun x hx hy => h.dis x hy hx, h.gw⟩
theorem Duo.kept {W wr w2 : World} {gp gq : Nat} {p q : Lq} {cs ds : List Qc} (h : Duo W wr gp gq p q cs ds) (K : wr.grownBy w2 none) : Duo W w2 gp gq p q cs ds := ⟨h.a.keptNone K, h.b.keptNone K, h.ga, h.gb, h.ca, h.cb, h.dis, grown_trans h.gw K⟩
theorem Duo.gws {W wr w2 : World} {gp gq : Nat} {p q : Lq} {cs ds : List Qc} {S : Nat → Prop} (h : Duo W wr gp gq p q cs ds) (G : GW wr w2 S) (h1 : ∀ x, p.foot x → ¬ S x) (h2 : ∀ x, q.foot x → ¬ S x) (h3 : ∀ x, S x → W.heap.size ≤ x) : Duo W w2 gp gq p q cs ds :=
  ⟨h.a.gw G h1, h.b.gw G h2, h.ga, h.gb, h.ca, h.cb, h.dis, ((GW.non (S := S) h.gw).trans G (fun x _ hx => hx)).grown (fun x hl hx => by have := h3 x hx; omega)⟩
theorem Duo.step {W wr w2 : World} {gp gq : Nat} {p p' q : Lq} {cs cs' ds : List Qc} (h : Duo W wr gp gq p q cs ds) (L : LqAt w2 W.heap.size p') (hg : p'.g = p.g) (ha : p'.abs = cs') (G : GW wr w2 p.foot) (F : Foots wr p.foot p'.foot) : Duo W w2 gp gq p' q cs' ds := by
  refine ⟨L, h.b.gw G (fun x hx hp => h.dis x hp hx), hg.trans h.ga, h.gb, ha, h.cb, fun x hx hy => ?_, ((GW.non (S := p.foot) h.gw).trans G (fun x _ hx => hx)).grown (fun x hl hx => by have := (h.a.lt x hx).1; omega)⟩
  rcases F x hx with h1 | h1
  · exact h.dis x h1 hy
  · have := (h.b.lt x hy).2
    omega
theorem Duo.new {W w1 w2 w3 : World} {p q : Lq} {cs ds : List Qc} (hp : LqAt w1 W.heap.size p) (ca : p.abs = cs) (K : w1.grownBy w2 none) (K3 : w2.grownBy w3 none) (hq : LqAt w3 w2.heap.size q) (cb : q.abs = ds) (KW : W.grownBy w1 none) : Duo W w3 p.g q.g p q cs ds :=
  ⟨hp.keptNone (grown_trans K K3), hq.mono (Nat.le_trans KW.size K.size), rfl, rfl, ca, cb, fun x hx hy => by have := (hp.lt x hx).2; have := (hq.lt x hy).1; have := K.size; omega, grown_trans KW (grown_trans K K3)⟩

/-- A literal frame put into the first one. -/
theorem Duo.put {W wr : World} {gp gq : Nat} {p q : Lq} {cs ds : List Qc} (h : Duo W wr gp gq p q cs ds) (m : Int) (b : List UInt8) :
    Calls Try.prog 15 #[.pointer (some ⟨gp, 0, none⟩), .int .i64 m, .slice (some ⟨wr.heap.size, 0, none⟩) b.length b.length] (wr.alloc (.cells (b.map bv).toArray 5)) fun e w' => e = .returned (.tuple #[.bool (putB cs m b), .int .i64 (putE cs m b)]) ∧ ∃ p', Duo W w' gp gq p' q (putP cs m b) ds := by
  have K := World.grownBy_alloc wr (.cells (b.map bv).toArray 5) none
  have h1 := h.kept K
  have CP := lqput_any W.heap.size p m (some ⟨wr.heap.size, 0, none⟩) b.length b _ h1.a (cells_lit wr b) (fun e => by cases e)
  rw [h1.ga] at CP
  refine CP.mono ?_
  rintro e w' ⟨rfl, p', L, hg, ha, G, F⟩
  rw [h1.ca] at ha ⊢
  exact ⟨rfl, p', h1.step L hg ha G F⟩

/-- The class that is asked for. -/
def atN (x : Int) (n : Nat) : Nat := lowV x % n
theorem atN_lt (x : Int) {n : Nat} (h : 1 ≤ n) : atN x n < n := Nat.mod_lt _ h
theorem atN_tmod (x : Int) (n : Nat) : (lowV x : Int).tmod (n : Int) = (atN x n : Int) := by
  rw [Int.tmod_eq_emod_of_nonneg (Int.natCast_nonneg _)]
  unfold atN
  omega

theorem take_empty {cs : List Qc} (h : allP cs = []) : takeP cs = none := by
  cases e : takeP cs with
  | none => rfl
  | some x =>
    obtain ⟨n, b, ds⟩ := x
    have := (take_yes cs n b ds e).1
    rw [h] at this
    cases this
theorem take_some_of {cs : List Qc} {b : List UInt8} {t : List (List UInt8)} (h : allP cs = b :: t) : ∃ n ds, takeP cs = some (n, b, ds) ∧ allP ds = t ∧ ds.map Qc.clear = cs.map Qc.clear := by
  cases e : takeP cs with
  | none =>
    have := (take_no cs e).1
    rw [h] at this
    cases this
  | some x =>
    obtain ⟨n, c, ds⟩ := x
    obtain ⟨h1, h2, -⟩ := take_yes cs n c ds e
    rw [h] at h1
    simp only [List.cons.injEq] at h1
    obtain ⟨rfl, rfl⟩ := h1
    exact ⟨n, ds, rfl, rfl, h2.symm⟩
theorem clear_clear (cs : List Qc) : (cs.map Qc.clear).map Qc.clear = cs.map Qc.clear := by
  rw [List.map_map]
  rfl
theorem lens_clear (cs : List Qc) : lensP (cs.map Qc.clear) = List.replicate cs.length 0 := by
  induction cs with
  | nil => rfl
  | cons x r ih =>
    simp only [lensP, List.map_cons, List.length_cons, List.replicate_succ] at ih ⊢
    rw [ih]
    rfl
theorem byte_lit (k : Nat) : (Value.int .u8 ((k : Int) % 256)) = bv (UInt8.ofNat k) := by simp [bv]
theorem put_okl (cs : List Qc) (m : Int) (b : List UInt8) : (putP cs m b).length = cs.length := put_len cs m b

end Go.Proofs.Ytlfjpbedjmnpaaa
