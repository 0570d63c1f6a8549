/-
  A link and a spec of one's own, turned, beside those that are read.
-/
import Derived.Test.YtfjjmeanmlimoaaForgeL
import Derived.Test.YtfjjmeanmlimoaaForgeW
namespace Go.Proofs.Ytfjjmeanmlimoaa
open Go.RowKit
set_option maxRecDepth 100000

theorem xor1 (n : Nat) : n ^^^ 1 = if n % 2 = 1 then n - 1 else n + 1 := by
  have h1 : (n ^^^ 1) / 2 = n / 2 := by rw [Nat.xor_div_two]; simp
  have h2 : (n ^^^ 1) % 2 = (n % 2 + 1) % 2 := by
    have := Nat.testBit_xor n 1 0
    simp only [Nat.testBit_zero] at this
    rcases Nat.mod_two_eq_zero_or_one n with h | h <;> rcases Nat.mod_two_eq_zero_or_one (n ^^^ 1) with h' | h' <;> simp_all
  split <;> omega

theorem fit_proto {l : Lk} {s : Sp} (F : Fits l s) : s.proto = 0 ∨ s.proto ≤ 65535 ∧ s.proto % 2 = 1 := by
  cases hs : saidB s with
  | true => exact .inr ⟨(F.said hs).1, (F.said hs).2.1⟩
  | false =>
    simp only [saidB, Bool.or_eq_false_iff, Bool.not_eq_false'] at hs
    exact .inl (F.mute hs.1 hs.2).1
theorem fit_seq {l : Lk} {s : Sp} (F : Fits l s) : s.seq < 16777216 := by
  cases hm : s.multi with
  | true =>
    have := (F.piece hm).2
    unfold spV at this
    split at this <;> omega
  | false =>
    have := (F.none hm).2.2.1
    omega

theorem tS_ok {l : Lk} {s : Sp} (h : s.ok) (F : Fits l s) (j : Nat) : (tS j s).ok := by
  have h1 := fit_proto F
  have h2 := fit_seq F
  have h3 := F.next
  obtain ⟨a1, a2, a3, a4, a5, a6⟩ := h
  unfold tS
  split <;> constructor <;> (try assumption) <;> simp only [] <;> (try split) <;> omega

theorem turn0 {l : Lk} {s : Sp} (F : Fits l s) : bits .xor .u32 (s.proto : Int) 1 = (((tS 0 s).proto : Nat) : Int) := by
  have h1 := fit_proto F
  have k := u32_xor_nat s.proto 1 (by omega) (by omega)
  rw [xor1] at k
  refine k.trans ?_
  simp only [tS]
  split <;> split <;> omega
theorem turn1 {l : Lk} {s : Sp} (F : Fits l s) : bits .or .u32 (s.proto : Int) 65536 = (((tS 1 s).proto : Nat) : Int) := by
  have h1 := fit_proto F
  have k := u32_or_nat s.proto 65536 (by omega) (by omega)
  rw [show s.proto ||| 65536 = 65536 + s.proto from or_top 16 s.proto (by omega)] at k
  refine k.trans ?_
  simp only [tS]
  omega
theorem turn3 {l : Lk} {s : Sp} (F : Fits l s) : bits .or .u32 (s.seq : Int) 16777216 = (((tS 3 s).seq : Nat) : Int) := by
  have h1 := fit_seq F
  have k := u32_or_nat s.seq 16777216 (by omega) (by omega)
  rw [show s.seq ||| 16777216 = 16777216 + s.seq from or_top 24 s.seq (by omega)] at k
  refine k.trans ?_
  simp only [tS]
  omega
theorem turn2 {l : Lk} {s : Sp} (F : Fits l s) : wrap64 (s.next + 256) = (tS 2 s).next := by
  have h1 := F.next
  have e : (tS 2 s).next = s.next + 256 := rfl
  rw [e]
  unfold wrap64
  omega

/-- The turned spec and link in their blocks D and F, the others as they were. -/
structure TI (w : World) (B C D F g cap : Nat) (l : Lk) (s : Sp) (a : Option Addr) (ca : Nat) (l' : Lk) (s' : Sp) (W : World) : Prop where
  sp : VAt W D 28 (spA s' (some ⟨g, 0, none⟩) cap)
  lk : VAt W F 23 (lkA l')
  dt : Cells W (some ⟨g, 0, none⟩) s.data
  LK : VAt W B 23 (lkA l)
  SK : VAt W C 28 (spA s a ca)
  up : w.grownBy W none
  ord : g < D ∧ D < F ∧ B < D ∧ C < D ∧ w.heap.size ≤ D

theorem TI.set {w : World} {B C D F g cap : Nat} {l : Lk} {s : Sp} {a : Option Addr} {ca : Nat} {l' : Lk} {s' s'' : Sp} {W : World} (I : TI w B C D F g cap l s a ca l' s' W) (i : Nat) (v : Value)
    (e : (spL s' (some ⟨g, 0, none⟩) cap).set i v = spL s'' (some ⟨g, 0, none⟩) cap) : TI w B C D F g cap l s a ca l' s'' (W.setCell ⟨D, i, none⟩ v) := by
  have K : W.grownBy (W.setCell ⟨D, i, none⟩ v) (some D) := grown_set1 _ _ _
  have h := I.ord
  refine ⟨?_, I.lk.grown K (by simp; omega), I.dt.keptUp D (by intro ad had; obtain rfl := Option.some.inj had; exact h.1) K (by intro k hk; obtain rfl := Option.some.inj hk; exact Nat.le_refl _), I.LK.grown K (by simp; omega), I.SK.grown K (by simp; omega),
    grown_trans_new I.up K (by intro k hk; obtain rfl := Option.some.inj hk; exact h.2.2.2.2), h⟩
  have k := I.sp.set i v
  rw [spA, List.setIfInBounds_toArray, e] at k
  exact k
theorem TI.setL {w : World} {B C D F g cap : Nat} {l : Lk} {s : Sp} {a : Option Addr} {ca : Nat} {l' l'' : Lk} {s' : Sp} {W : World} (I : TI w B C D F g cap l s a ca l' s' W) (i : Nat) (v : Value)
    (e : (lkA l').setIfInBounds i v = lkA l'') : TI w B C D F g cap l s a ca l'' s' (W.setCell ⟨F, i, none⟩ v) := by
  have K : W.grownBy (W.setCell ⟨F, i, none⟩ v) (some F) := grown_set1 _ _ _
  have h := I.ord
  refine ⟨I.sp.grown K (by simp; omega), ?_, I.dt.keptUp D (by intro ad had; obtain rfl := Option.some.inj had; exact h.1) K (by intro k hk; obtain rfl := Option.some.inj hk; omega), I.LK.grown K (by simp; omega), I.SK.grown K (by simp; omega),
    grown_trans_new I.up K (by intro k hk; obtain rfl := Option.some.inj hk; omega), h⟩
  have k := I.lk.set i v
  rw [e] at k
  exact k

theorem spL_set41 {s : Sp} (h : s.ok) (a : Option Addr) (ca : Nat) (n : Nat) : (spL s a ca).set 41 (.int .u32 (n : Int)) = spL { s with frm := n } a ca := by
  unfold spL
  simp only [List.set_cons_succ]
  rw [List.set_append_right _ _ (by simp [h.src])]
  simp only [List.length_map, h.src]
  rw [List.set_append_right _ _ (by simp [h.dst])]
  simp only [List.length_map, h.dst]
  rfl

end Go.Proofs.Ytfjjmeanmlimoaa
