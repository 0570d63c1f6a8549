/-
  The landed reader: ip, ip6, Network.
-/
import Derived.Test.YtgfiadljjlajaabWalkD
namespace Go.Proofs.Ytgfiadljjlajaab
open Go.RowKit
set_option maxRecDepth 100000

theorem read_ok' (g : Nat) (v : Vw) (l : Lk) (a : Option Addr) (ca : Nat) (b : List UInt8) (k s : Nat) (w : World) (h : WAt w g v l (.slice a b.length ca)) (ha : FrA w g a b) (hn : b.length ≤ 140737488355328) (hs : s = 1 ∨ s = 2 ∨ s = 4) (hk : v.pos + k + s ≤ b.length) :
    Calls Try.prog 31 #[.pointer (some ⟨g, 0, none⟩), .int .i64 (k : Int), .int .i64 (s : Int)] w fun e w' => e = .returned (.int .u32 (numAt b (v.pos + k) s : Int)) ∧ WAt w' g v l (.slice a b.length ca) ∧ w.grownBy w' none := by
  refine (read_ok g v l a ca b k s w h ha.1 hn hs hk).mono ?_
  rintro e w' ⟨rfl, n, rfl⟩
  exact ⟨rfl, h.kept (grown_drewN _ n none), grown_drewN _ n none⟩

theorem WAt.setNet {w : World} {g : Nat} {v : Vw} {l : Lk} {s : Value} (h : WAt w g v l s) (n x : Nat) : WAt ((w.setCell ⟨g, 6, none⟩ (.int .i64 (n : Int))).setCell ⟨g, 7, none⟩ (.int .i64 (x : Int))) g { v with net := n, next := x } l s := VAt.set (VAt.set h 6 _) 7 _
theorem WAt.setLoad {w : World} {g : Nat} {v : Vw} {l : Lk} {s : Value} (h : WAt w g v l s) (n : Nat) : WAt (w.setCell ⟨g, 8, none⟩ (.int .i64 (n : Int))) g { v with load := n } l s := VAt.set h 8 _

theorem off_zero (x y : Nat) (hx : x < 256) (hy : y < 256) : (bits BinOp.and IntKind.u32 ((x * 256 + y : Nat) : Int) 8191 == 0) = decide (x % 32 = 0 ∧ y = 0) := by
  have e : bits BinOp.and IntKind.u32 ((x * 256 + y : Nat) : Int) 8191 = (((x * 256 + y) % 8192 : Nat) : Int) := mod_and (x * 256 + y) 13 (by omega) (by decide)
  rw [e]
  by_cases h : x % 32 = 0 ∧ y = 0
  · rw [decide_eq_true h, beq_iff_eq]; omega
  · rw [decide_eq_false h, beq_eq_false_iff_ne]; omega

theorem grown_set3 {w W : World} {g i j k : Nat} {u v x : Value} (K : w.grownBy W (some g)) : w.grownBy (((W.setCell ⟨g, i, none⟩ u).setCell ⟨g, j, none⟩ v).setCell ⟨g, k, none⟩ x) (some g) :=
  grown_setCell (grown_setCell (grown_setCell K _ _ (.inl rfl)) _ _ (.inl rfl)) _ _ (.inl rfl)
theorem ip6_drew {w W : World} {g : Nat} {p : Int} {n : Nat} (h : W.cell? ⟨g, 5, none⟩ = some (.int .i64 p) ∧ w.grownBy W (some g)) : (W.drewN n).cell? ⟨g, 5, none⟩ = some (.int .i64 p) ∧ w.grownBy (W.drewN n) (some g) := ⟨(grown_drewN W n none).cell h.1 (by simp), grown_trans h.2 (grown_drewN W n (some g))⟩
theorem ip6_call {w W : World} {g : Nat} {p : Int} (h : W.cell? ⟨g, 5, none⟩ = some (.int .i64 p)) (K : w.grownBy W none) : W.cell? ⟨g, 5, none⟩ = some (.int .i64 p) ∧ w.grownBy W (some g) := ⟨h, grown_mono K⟩
theorem ip6_store {w W : World} {g : Nat} {p : Int} (h : W.cell? ⟨g, 5, none⟩ = some (.int .i64 p) ∧ w.grownBy W (some g)) (i : Nat) (hi : i ≠ 5) (u : Value) : (W.setCell ⟨g, i, none⟩ u).cell? ⟨g, 5, none⟩ = some (.int .i64 p) ∧ w.grownBy (W.setCell ⟨g, i, none⟩ u) (some g) :=
  ⟨(World.cell?_setCell_other W _ _ u (fun e => hi (congrArg Addr.off e))).trans h.1, grown_setCell h.2 _ _ (.inl rfl)⟩

end Go.Proofs.Ytgfiadljjlajaab
