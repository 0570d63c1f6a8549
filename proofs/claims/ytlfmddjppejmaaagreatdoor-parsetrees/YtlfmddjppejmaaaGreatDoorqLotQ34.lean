import Derived.Test.YtlfmddjppejmaaaGreatDoorqLotQ33
import Derived.Maps.AppendAt
set_option maxHeartbeats 64000000
set_option maxRecDepth 100000
namespace Go.Proofs.YtlfmddjppejmaaaGreatDoor
open Go.RowKit
theorem a1F {s : ByteArray} {l : List UInt8} (h : sl s = l) (i : Nat) : gd s i = (l.getD i 0).toNat := by unfold gd; unfold sl at h; rw [h]
theorem un4 {s : ByteArray} {a b c d : UInt8} (h : sl s = [a, b, c, d]) :
  O9 s = (v6 a.toNat && v6 b.toNat && v6 c.toNat && v6 d.toNat) ∧
  (O9 s = true → unV s = [UInt8.ofNat (16 * m9 a.toNat + m9 b.toNat), UInt8.ofNat (16 * m9 c.toNat + m9 d.toNat)]) := by
 have hs : s.size = 4 := by rw [← j0, h]; rfl
 have g0 : gd s 0 = a.toNat := a1F h 0
 have g1 : gd s 1 = b.toNat := a1F h 1
 have g2 : gd s 2 = c.toNat := a1F h 2
 have g3 : gd s 3 = d.toNat := a1F h 3
 refine ⟨?_, fun ho => ?_⟩
 ·simp [O9, hs, U1, g0, g1, g2, g3, Bool.and_assoc]
 ·rw [unV, if_pos ho, hs]
  simp [S8, g0, g1, g2, g3]
theorem a1C (c : Nat) : m9 c < 16 := by unfold m9; split <;> (try split) <;> omega
theorem a76 (a b c d : Nat) (ha : a < 16) (hb : b < 16) (hc : c < 16) (hd : d < 16) : a0A [UInt8.ofNat (16 * a + b), UInt8.ofNat (16 * c + d)] 0 2 = ((4096 * a + 256 * b + 16 * c + d : Nat) : Int) := by
 have e1 : (UInt8.ofNat (16 * a + b)).toNat = 16 * a + b := by rw [UInt8.toNat_ofNat_of_lt' (by show _ < 256; omega)]
 have e2 : (UInt8.ofNat (16 * c + d)).toNat = 16 * c + d := by rw [UInt8.toNat_ofNat_of_lt' (by show _ < 256; omega)]
 have ho : okB [UInt8.ofNat (16 * a + b), UInt8.ofNat (16 * c + d)].length 0 2 = true := show okB 2 0 2 = true by decide
 rw [a0A, if_pos ho]
 show (((0 * 256 + (UInt8.ofNat (16 * a + b)).toNat) * 256 + (UInt8.ofNat (16 * c + d)).toNat : Nat) : Int) = _
 rw [e1, e2]
 omega
theorem a0B (r : List UInt8) : J7 0 (48 :: r) = J7 0 r := by rw [J7, if_pos (by decide)]; rfl
theorem a44 (a b c d : UInt8) : J7 0 [a, b, c, d] = if (v6 a.toNat && v6 b.toNat && v6 c.toNat && v6 d.toNat) = true then some (4096 * m9 a.toNat + 256 * m9 b.toNat + 16 * m9 c.toNat + m9 d.toNat) else none := by
 simp only [J7]
 cases v6 a.toNat <;> cases v6 b.toNat <;> cases v6 c.toNat <;> cases v6 d.toNat <;> simp <;> omega
theorem a7b (l : List UInt8) (h1 : 1 ≤ l.length) (h4 : l.length ≤ 4) : ∃ a b c d, List.replicate (4 - l.length) 48 ++ l = [a, b, c, d] ∧ o5 l = J7 0 [a, b, c, d] := by
 match l, h1, h4 with
 | [d], _, _ => exact ⟨48, 48, 48, d, rfl, by rw [a0B, a0B, a0B]; rfl⟩
 | [c, d], _, _ => exact ⟨48, 48, c, d, rfl, by rw [a0B, a0B]; rfl⟩
 | [b, c, d], _, _ => exact ⟨48, b, c, d, rfl, by rw [a0B]; rfl⟩
 | [a, b, c, d], _, _ => exact ⟨a, b, c, d, rfl, rfl⟩
theorem ag3 (a b : ByteArray) : sl (a ++ b) = sl a ++ sl b := by simp [sl]
theorem a7a (s : ByteArray) (w : World) :
  Calls Tryz.prog 136 #[.string s] w fun e w' => e = .returned (.tuple #[.int .u16 (((o5 (sl s)).getD 0 : Nat) : Int), .bool (o5 (sl s)).isSome]) ∧ w.grownBy w' none := by
 have hl := j0 s
 by_cases h0 : s.size < 1
 ·have e : o5 (sl s) = none := by rw [o5, if_pos (by omega)]
  rw [e]
  have h0' : (s.size : Int) < 1 := by omega
  go_enter Tryz.func136, Tryz.ntmps136
  go_wp2
  go_ret2
  exact ⟨rfl, World.grownBy.refl _ _⟩
 ·have h0' : ¬ (s.size : Int) < 1 := by omega
  by_cases h4 : 4 < s.size
  ·have e : o5 (sl s) = none := by rw [o5, if_pos (by omega)]
   rw [e]
   have h4' : (4 : Int) < (s.size : Int) := by omega
   go_enter Tryz.func136, Tryz.ntmps136
   go_wp2
   go_ret2
   exact ⟨rfl, World.grownBy.refl _ _⟩
  ·have h4' : ¬ (4 : Int) < (s.size : Int) := by omega
   have h5' : (s.size : Int) ≤ 4 := by omega
   obtain ⟨a, b, c, d, hs4, hg⟩ := a7b (sl s) (by omega) (by omega)
   rw [hl] at hs4
   have HS : Hid (List.replicate (4 - s.size) 48 ++ sl s = [a, b, c, d]) := hs4
   have CU : Hid (∀ (X : ByteArray) (W : World), sl X = [a, b, c, d] → Calls Tryz.prog 138 #[.string X] W fun e w' => ∃ v ys, e = .returned (.tuple #[v, .bool (o5 (sl s)).isSome]) ∧ L8 w' W.heap.size v ys ∧ a0A ys 0 2 = (((o5 (sl s)).getD 0 : Nat) : Int) ∧ ys.length ≤ 2 ∧ W.grownBy w' none) := fun X W hX => by
    have hXs : X.size = 4 := by rw [← j0, hX]; rfl
    obtain ⟨u1, u2⟩ := un4 hX
    refine (ai0 X W (by omega) (by omega)).mono ?_
    rintro e w' ⟨v, rfl, O, G⟩
    refine ⟨v, unV X, ?_, O, ?_, ?_, G⟩
    ·rw [hg, a44, u1]
     split <;> rename_i hh
     ·rw [hh]; rfl
     ·rw [Bool.eq_false_iff.2 hh]; rfl
    ·rw [hg, a44, ← u1]
     split
     ·rename_i hh
      rw [u2 hh, a76 _ _ _ _ (a1C _) (a1C _) (a1C _) (a1C _)]
      rfl
     ·rename_i hh
      rw [unV, if_neg hh]
      rfl
    ·by_cases hh : O9 X = true
     ·rw [u2 hh]; exact Nat.le_refl _
     ·rw [unV, if_neg hh]; exact Nat.zero_le _
   have hlt : ((o5 (sl s)).getD 0 : Nat) < 65536 := by
    cases hq : o5 (sl s) with
    | none => decide
    | some u => exact a2s hq
   clear hg hs4
   generalize (o5 (sl s)).isSome = ok at *
   generalize (o5 (sl s)).getD 0 = u at *
   go_enter Tryz.func136, Tryz.ntmps136
   go_wp2_with fail
   refine (CU.out _ _ ?hx).mono ?_
   case hx =>
    rw [ag3, N1, ← HS.out]
    congr 1
    have : s.size = 1 ∨ s.size = 2 ∨ s.size = 3 ∨ s.size = 4 := by omega
    rcases this with h | h | h | h <;> simp only [h] <;> rfl
   rintro e w1 ⟨v, ys, rfl, O, hv, hy, G⟩
   obtain ⟨ao, cap, rfl, hc, -⟩ := O.rd
   have CG := a77 ao cap ys 0 2 w1 hc (by omega)
   rw [hv] at CG
   have hw : IntKind.u16.wrap (u : Int) = u := by rw [IntKind.wrap_u16]; omega
   clear CU HS O hc hv
   generalize okB ys.length 0 2 = ok2 at *
   go_wp2_with fail
   refine CG.mono ?_
   rintro e w2 ⟨rfl, rfl⟩
   go_wp2
   go_ret2
   exact ⟨rfl, G⟩
def M0 (g : Nat) : Value := .int .u16 (g : Int)
abbrev a2c (w : World) (base : Nat) (v : Value) (gs : List Nat) : Prop := w.ownsRow base 161 1 v gs.length (gs.map M0)
theorem a6x (gs : List Nat) (g : Nat) : j2 (gs ++ [g]) = j2 gs ++ [UInt8.ofNat (g / 256), UInt8.ofNat g] := by simp [j2]
theorem M7 (gs : List Nat) : (j2 gs).length = 2 * gs.length := by
 induction gs with
 | nil => rfl
 | cons g r ih => simp only [j2, List.flatMap_cons, List.length_append, List.length_cons, List.length_nil] at *; omega
theorem a1M (a : Option Addr) (ca : Nat) (gs : List Nat) (w : World) (ha : CV w a (gs.map M0)) (hg : ∀ g ∈ gs, g < 65536) (h8 : gs.length ≤ 8) :
  Calls Tryz.prog 133 #[.slice a gs.length ca] w fun e w' => ∃ v, e = .returned v ∧ L8 w' w.heap.size v (j2 gs) ∧ w.grownBy w' none := by
 obtain ⟨i0, hi, hz0, hz1, hz2⟩ := info_parts a2w
 have H : Hid (CV w a (gs.map M0)) := ha
 have HG : Hid (∀ g ∈ gs, g < 65536) := hg
 clear ha hg
 go_enter Tryz.func133, Tryz.ntmps133
 go_wp2
 go_loopw [3, 8] (fun v i wr => ∃ j : Nat, j ≤ gs.length ∧ i = .int .i64 j ∧ L8 wr w.heap.size v (j2 (gs.take j)) ∧ w.grownBy wr none) (fun _ i _ => gs.length - (intOf i).toNat)
 case atStart => exact ⟨0, Nat.zero_le _, rfl, World.ownsRow_nil _ _ _ _, World.grownBy.refl _ _⟩
 case round =>
  obtain ⟨j, hj, rfl, O, G⟩ := hrel
  by_cases hlt : j < gs.length
  ·have hl : (j : Int) < (gs.length : Int) := by omega
   obtain ⟨b, o, rfl, hc⟩ : ∃ b o, a = some ⟨b, o, none⟩ ∧ w.cell? ⟨b, o + j, none⟩ = some (.int .u16 (gs[j] : Int)) := by
    cases a with
    | none => have := H.out.1 rfl; simp at this; subst this; simp at hlt
    | some ad =>
     obtain ⟨b, off, spot⟩ := ad
     have h0 := H.out.2 _ rfl 0 (by simp; omega)
     have hspot : spot = none := by simpa [Addr.add] using World.cell?_spot h0
     subst hspot
     refine ⟨b, off, rfl, ?_⟩
     have := H.out.2 _ rfl j (by simp; omega)
     rw [Addr.add_lit] at this
     simpa [M0] using this
   have hcj := G.cell hc (by simp)
   have hgj := HG.out gs[j] (List.getElem_mem hlt)
   have HN : Hid (j2 (gs.take (j + 1)) = j2 (gs.take j) ++ [UInt8.ofNat (gs[j] / 256), UInt8.ofNat gs[j]]) := by
    show _ = _
    rw [List.take_succ_eq_append_getElem hlt, a6x]
   have hlen : (j2 (gs.take j)).length ≤ 16 := by rw [M7, List.length_take]; omega
   generalize gs[j] = g at *
   generalize j2 (gs.take j) = ys at *
   have hw1 : IntKind.u8.wrap ((g : Int) / 256) = ((UInt8.ofNat (g / 256)).toNat : Int) := by
    rw [IntKind.wrap_u8, UInt8.toNat_ofNat_of_lt' (by show _ < 256; omega)]; omega
   have hw2 : IntKind.u8.wrap (g : Int) = ((UInt8.ofNat g).toNat : Int) := by
    rw [IntKind.wrap_u8, UInt8.toNat_ofNat']; omega
   clear hc
   go_wp2_with (at_builtin; refine Y5 rfl (.tmp 12) (.tmp 18) 105 rfl 5 i0 (.int .u8 0) 1 1 Tryz.underlying105 hi hz0 hz1 hz2 rfl (by decide) w.heap.size u3 ys.length (ys.map bv) rfl ?q1 (some ⟨wr.heap.size, 0, none⟩) 2 2 [bv (UInt8.ofNat (g / 256)), bv (UInt8.ofNat g)] rfl rfl (by simp) ?q2 (by simp [Value.oneCell', bv]) ?q3 ?q4 ?q5 ?q6)
   case q1 => exact O.alloc _
   case q2 => exact m8 wr _ _
   case q3 => unfold maxLen; omega
   case q4 => omega
   case q5 => have := G.size; simp; omega
   case q6 =>
    intro y2 w2 O2 K2
    have G2 : w.grownBy w2 none := z6 (d5 G (World.grownBy_alloc _ _ _)) K2 (fun z hz => (O.lt z hz).1)
    have O3 : L8 w2 w.heap.size y2 (j2 (gs.take (j + 1))) := by
     rw [HN.out]
     unfold L8
     rw [List.length_append, List.map_append]
     exact O2
    clear O2 K2 O G
    go_wp2
    go_roundw
    case rel => exact ⟨j + 1, by omega, by go_num, O3, G2⟩
    case measure => simp [intOf]; omega
  ·obtain rfl : j = gs.length := by omega
   rw [List.take_length] at O
   go_wp2
   go_ret
   exact ⟨_, rfl, O, G⟩

open Go.RowKit Go.Shelf

attribute [local go_sem] Oper.semAt_some
def Y8 (pre : List (Nat × List UInt8)) : Prop := ∀ p ∈ pre, (o5 p.2).isSome = true ∧ p.1 < 8
def P0 (pre : List (Nat × List UInt8)) : List Nat := pre.map fun p => (o5 p.2).getD 0
theorem a40 (pre : List (Nat × List UInt8)) (x : Nat × List UInt8) : Y8 (pre ++ [x]) ↔ Y8 pre ∧ (o5 x.2).isSome = true ∧ x.1 < 8 := by
 unfold Y8
 constructor
 ·intro h
  exact ⟨fun p hp => h p (by simp [hp]), h x (by simp)⟩
 ·rintro ⟨h1, h2⟩ p hp
  rcases List.mem_append.1 hp with hp | hp
  ·exact h1 p hp
  ·simp only [List.mem_singleton] at hp
   subst hp
   exact h2
theorem a78 (s : List UInt8) (hs : s ≠ []) (h : Y8 (y7 0 (f9 58 s))) : k6 s = some (P0 (y7 0 (f9 58 s))) := by
 have h8 : (f9 58 s).length ≤ 8 := by
  rcases Nat.lt_or_ge 8 (f9 58 s).length with hl | hl
  ·have := (h _ (List.mem_of_getElem? (a4F 0 (f9 58 s) 8 hl))).2
   simp only at this
   omega
  ·exact hl
 have ha : ∀ x ∈ f9 58 s, (o5 x).isSome = true := fun x hx => by
  rw [← a2J 0 (f9 58 s)] at hx
  obtain ⟨p, hp, rfl⟩ := List.mem_map.1 hx
  exact (h p hp).1
 rw [k6, if_neg hs, if_neg (by omega), a3p ha]
 have e : P0 (y7 0 (f9 58 s)) = ((y7 0 (f9 58 s)).map (·.2)).map fun x => (o5 x).getD 0 := by simp [P0, Function.comp_def]
 rw [e, a2J]
theorem a87 (s : List UInt8) (hs : s ≠ []) {pre : List (Nat × List UInt8)} (hp : pre <+: y7 0 (f9 58 s)) (h : ¬ Y8 pre) : k6 s = none := by
 rw [k6, if_neg hs]
 split
 ·rfl
 ·rename_i h8
  cases ha : t7 o5 (f9 58 s) with
  | none => rfl
  | some ns =>
   exfalso
   refine h fun p hm => ?_
   have hm2 := a4H (hp.subset hm)
   exact ⟨a3q ha _ hm2.2, by omega⟩
theorem a7c (w : World) (s m : ByteArray) : ∀ W0, (((((w.alloc (.cells #[.slice none 0 0] 156)).alloc (.cells #[.bool false] 4)).alloc (.cells #[.slice none 0 0] 156)).alloc (.cells #[.string s] 9)).alloc (.cells #[.string m] 9)) = W0 →
  Boxed W0 w.heap.size 156 (.slice none 0 0) ∧ Boxed W0 (w.heap.size + 1) 4 (.bool false) ∧ Boxed W0 (w.heap.size + 1 + 1) 156 (.slice none 0 0) ∧ Boxed W0 (w.heap.size + 1 + 1 + 1) 9 (.string s) ∧ Boxed W0 (w.heap.size + 1 + 1 + 1 + 1) 9 (.string m) ∧ w.grownBy W0 none ∧ W0.heap.size = w.heap.size + 5 := by
 rintro W0 rfl
 refine ⟨?_, ?_, ?_, ?_, ?_, ?_, ?_⟩
 ·exact E3 (E3 (E3 (E3 (S9 _ _ _ rfl) _) _) _) _
 ·exact E3 (E3 (E3 (S9 _ _ _ (by simp only [World.size_alloc])) _) _) _
 ·exact E3 (E3 (S9 _ _ _ (by simp only [World.size_alloc])) _) _
 ·exact E3 (S9 _ _ _ (by simp only [World.size_alloc])) _
 ·exact S9 _ _ _ (by simp only [World.size_alloc])
 ·exact d5 (d5 (d5 (d5 (World.grownBy_alloc _ _ _) (World.grownBy_alloc _ _ _)) (World.grownBy_alloc _ _ _)) (World.grownBy_alloc _ _ _)) (World.grownBy_alloc _ _ _)
 ·simp only [World.size_alloc]
def IG (w : World) (R K O M : Nat) (pre : List (Nat × List UInt8)) (W : World) : Prop :=
 ((∃ v, Boxed W O 156 v ∧ W.ownsRow w.heap.size 161 1 v (P0 pre).length ((P0 pre).map M0) ∧ True) ∧ (Y8 pre ∧ Boxed W R 156 (.slice none 0 0) ∧ Boxed W K 4 (.bool false) ∧ Boxed W M 9 (.string ⟨#[58]⟩))) ∧ Below w.heap.size w W
def XG (w : World) (R K : Nat) (c : Code) (pre : List (Nat × List UInt8)) (W : World) : Prop :=
 (c = .ret ∧ ¬ Y8 pre ∧ Boxed W R 156 (.slice none 0 0) ∧ Boxed W K 4 (.bool false)) ∧ Below w.heap.size w W
theorem a5H (w : World) (R K O M B : Nat) (hB : w.heap.size ≤ B) : OwnFrom B (IG w R K O M) :=
 OwnFrom.and (OwnFrom.and (Own.from (holdsRow_own w.heap.size O 156 161 1 (fun pre => (P0 pre).length) (fun pre => (P0 pre).map M0) (fun _ _ => True)) _) (Own.from (fun _ _ _ _ hs hg hr => ⟨hs.1, E5 hs.2.1 hg hr, E5 hs.2.2.1 hg hr, E5 hs.2.2.2 hg hr⟩) _)) (ownFrom_below (Nat.le_refl _) hB)
theorem a5M (w : World) (R K B : Nat) (hB : w.heap.size ≤ B) (c : Code) : OwnFrom B (XG w R K c) :=
 OwnFrom.and (Own.from (fun _ _ _ _ hs hg hr => ⟨hs.1, hs.2.1, E5 hs.2.2.1 hg hr, E5 hs.2.2.2 hg hr⟩) _) (ownFrom_below (Nat.le_refl _) hB)
theorem a30 {P : Program} {fn : Func} {p q : Tmp} {ty te : TypeId} (h : fn.results = #[.cell p ty, .cell q te]) (tmps : Array Value) (w : World) (g e : Nat) (u v : Value) (hp : tmps.getD p undef = .pointer (some ⟨g, 0, none⟩)) (hq : tmps.getD q undef = .pointer (some ⟨e, 0, none⟩)) (A : Boxed w g ty u) (B : Boxed w e te v)
  (hu : (isAgg ty).run P w = .ok false w) (hv : (isAgg te).run P w = .ok false w) : (results fn tmps).run P w = .ok (.tuple #[u, v]) w := by
 have hp' : tmps[p]?.getD undef = .pointer (some ⟨g, 0, none⟩) := by simpa using hp
 have hq' : tmps[q]?.getD undef = .pointer (some ⟨e, 0, none⟩) := by simpa using hq
 have h1 : (loadVar ty ⟨g, 0, none⟩).run P w = .ok u w := by
  have hc := A.cell
  simp [loadVar, Sem.run_bind, hu, go_sem, hc]
 have h2 : (loadVar te ⟨e, 0, none⟩).run P w = .ok v w := by
  have hc := B.cell
  simp [loadVar, Sem.run_bind, hv, go_sem, hc]
 simp [results, h, hp', hq', asAddr, h1, h2, Sem.run_bind]
theorem a7h : (Tryz.prog.info? 161).map (fun i => (i.zero, i.size, i.bytes)) = some (some (.int .u16 0), 1, 2) := by kernel_rfl
theorem a41 (s : ByteArray) (w : World) (hs : s.size ≤ 1048576) (T : x5 w) :
  Calls Tryz.prog 132 #[.string s] w fun e w' => ∃ v, e = .returned (.tuple #[v, .bool (k6 (sl s)).isSome]) ∧ a2c w' w.heap.size v ((k6 (sl s)).getD []) ∧ w.grownBy w' none := by
 obtain ⟨i0, hi, hz0, hz1, hz2⟩ := info_parts a7h
 have HT : Hid (x5 w) := T
 have h3 := T.size
 clear T
 have HS := j0 s
 by_cases h0 : s.size = 0
 ·have hn : sl s = [] := List.eq_nil_of_length_eq_zero (by omega)
  have e : k6 (sl s) = some [] := by rw [k6, if_pos hn]
  rw [e]
  obtain rfl : s = ⟨#[]⟩ := by
   have := congrArg List.toArray hn
   unfold sl at this
   apply ByteArray.ext
   simpa using this
  clear hn e HS h0
  go_enter Tryz.func132, Tryz.ntmps132
  go_wp2
  refine bodyPost_ret (a30 rfl _ _ w.heap.size (w.heap.size + 1) (.slice none 0 0) (.bool true) rfl rfl (E3 (S9 _ _ _ rfl) _) (S9 _ _ _ (by simp only [World.size_alloc])) (run_isAgg_plain Tryz.underlying156 rfl _) (run_isAgg_plain Tryz.underlying4 rfl _)) rfl ?_
  exact ⟨_, rfl, World.ownsRow_nil _ _ _ _, d5 (World.grownBy_alloc _ _ _) (World.grownBy_alloc _ _ _)⟩
 ·have hsb : (s.toList == []) = false := by
   rw [ByteArray.toList_eq]
   exact beq_eq_false_iff_ne.2 (fun e => by unfold sl at HS; rw [e] at HS; simp at HS; omega)
  have HNE : Hid (sl s ≠ []) := fun e => by rw [e] at HS; simp at HS; omega
  refine (callsIn_wide (n := 3)).1 ?_
  refine callsIn_of_wp_marks Tryz.func132 rfl trivial ?_ rfl
  simp only [Tryz.ntmps132, List.size_toArray, List.length_cons, List.length_nil, Nat.reduceAdd, Nat.reduceSub, Array.replicate_succ, Array.replicate_zero, List.push_toArray, List.append_toArray, List.nil_append, List.cons_append]
  gi_wp2_with (refine ⟨trivial, ?_⟩; gi_at_call 129; refine (callsIn_wide.2 (a3t _ _ _)).mono ?_; rintro e w' ⟨rfl, rfl⟩)
  clear hsb h0
  obtain ⟨W0, hW0⟩ : ∃ W0, (((((w.alloc (.cells #[.slice none 0 0] 156)).alloc (.cells #[.bool false] 4)).alloc (.cells #[.slice none 0 0] 156)).alloc (.cells #[.string s] 9)).alloc (.cells #[.string ⟨#[58]⟩] 9)) = W0 := ⟨_, rfl⟩
  obtain ⟨fR, fK, fO, fS, fM, G0, hsz⟩ := a7c w s ⟨#[58]⟩ W0 hW0
  rw [hW0]
  clear hW0
  obtain ⟨M, hM⟩ : ∃ k, w.heap.size + 1 + 1 + 1 + 1 = k := ⟨_, rfl⟩
  rw [hM] at fM ⊢
  obtain ⟨Bs, hBs⟩ : ∃ k, w.heap.size + 1 + 1 + 1 = k := ⟨_, rfl⟩
  rw [hBs] at fS ⊢
  obtain ⟨O, hO⟩ : ∃ k, w.heap.size + 1 + 1 = k := ⟨_, rfl⟩
  rw [hO] at fO ⊢
  obtain ⟨K, hK⟩ : ∃ k, w.heap.size + 1 = k := ⟨_, rfl⟩
  rw [hK] at fK ⊢
  obtain ⟨R, hR⟩ : ∃ k, w.heap.size = k := ⟨_, rfl⟩
  rw [show (Value.pointer (some ⟨w.heap.size, 0, none⟩)) = .pointer (some ⟨R, 0, none⟩) by rw [hR]]
  rw [hR] at fR
  have ne : Hid (M ≠ O ∧ M ≠ R ∧ M ≠ K ∧ O ≠ R ∧ O ≠ K ∧ R ≠ K ∧ w.heap.size ≤ O ∧ w.heap.size ≤ R ∧ w.heap.size ≤ K) := by
   refine ⟨?_, ?_, ?_, ?_, ?_, ?_, ?_, ?_, ?_⟩ <;> omega
  clear hM hBs hO hK hR
  have hle : w.heap.size ≤ W0.heap.size := G0.size
  refine wpIn_rangeFunc_ownF rfl (by omega) (gf := 134) (lb := #[.pointer (some ⟨Bs, 0, none⟩), .pointer (some ⟨M, 0, none⟩)]) rfl trivial (enters_of Tryz.func134 (by kernel_rfl) rfl)
   (a4U _ (by omega) Bs M w.heap.size (fun k => k = M) 58 (sl s) (by omega) (.inl rfl) h3 W0 (HT.out.grown G0) (by rw [← K0]; exact fS.cell) fM.cell)
   (fun h k => h.trans k) (Kp.book hle) (Below.refl _ _) (fun _ => rfl)
   (IG w R K O M) (XG w R K) (a5H w R K O M _ hle) (fun c => a5M w R K _ hle c)
   ⟨⟨⟨_, fO, World.ownsRow_nil _ _ _ _, trivial⟩, (fun p hp => absurd hp (by simp)), fR, fK, fM⟩, a1z G0⟩
   (fun x => { tmps := #[.string s, undef, .pointer (some ⟨R, 0, none⟩), .pointer (some ⟨K, 0, none⟩), .pointer (some ⟨O, 0, none⟩), .int .i64 (x.1 : Int), str x.2, undef, undef, .string s, .bool false, .string s, .func (.func 134) #[] #[.pointer (some ⟨Bs, 0, none⟩), .pointer (some ⟨M, 0, none⟩)], .int .i64 (x.1 : Int), str x.2, undef, undef, undef, undef, undef, undef, undef, undef, undef, undef, undef, undef, undef, undef, undef, undef], defers := [] }) ?assign ?body ?done ?stop
  case assign =>
   intro l x W K hK
   gi_wp2
   exact hK
  case body =>
   rintro l pre ⟨i, t⟩ W ⟨⟨⟨v, hO, hrow, -⟩, hg, hRr, hKk, hMm⟩, hB⟩ hlen
   have hG := a7a ⟨t.toArray⟩ W
   rw [show o5 (sl ⟨t.toArray⟩) = o5 t from rfl] at hG
   obtain ⟨n1, n2, n3, n4, n5, n6, l1, l2, l3⟩ := ne.out
   have n6' : K ≠ R := Ne.symm n6
   have hpl : (P0 pre).length ≤ 1048577 := by
    have := a1r 58 [] (sl s)
    unfold f9 at hlen
    unfold P0
    rw [List.length_map]
    omega
   have hB' := hB.size
   by_cases hbad : o5 t = none ∨ 8 ≤ i
   ·have HB : Hid (¬ Y8 (pre ++ [(i, t)])) := fun h => by
     have h2 := ((a40 _ _).1 h).2
     rcases hbad with hb | hb
     ·rw [show o5 (i, t).2 = none from hb] at h2
      exact absurd h2.1 (by simp)
     ·have := h2.2
      simp only at this
      omega
    have fin : ∀ w1 : World, W.grownBy w1 none → ownPostK (Kp w.heap.size fun k => k = M) (IG w R K O M) (XG w R K) (pre ++ [(i, t)]) W .ret { tmps := #[], defers := [] } ((w1.setCell ⟨R, 0, none⟩ (.slice none 0 0)).setCell ⟨K, 0, none⟩ (.bool false)) := fun w1 G1 => by
     have bR1 := E5 hRr G1 (fun r e => by cases e)
     have bK1 := E5 hKk G1 (fun r e => by cases e)
     have hkk : KeepsOthers W w1 := KeepsOthers.of_grownBy G1 (fun _ _ e => by cases e)
     have hB1 : Below w.heap.size W w1 := (Below.refl _ _).grown G1 (by omega) (by simp)
     exact ⟨(hkk.trans (KeepsOthers.setCell _ _ _)).trans (KeepsOthers.setCell _ _ _), ⟨rfl, HB.out, L9 _ (bR1.set _) n6, Boxed.set _ (L9 _ bK1 n6')⟩, ((hB.trans hB1).setCell (p := ⟨R, 0, none⟩) l2 _).setCell (p := ⟨K, 0, none⟩) l3 _⟩
    have HF : Hid (∀ w1 : World, W.grownBy w1 none → ownPostK (Kp w.heap.size fun k => k = M) (IG w R K O M) (XG w R K) (pre ++ [(i, t)]) W .ret { tmps := #[], defers := [] } ((w1.setCell ⟨R, 0, none⟩ (.slice none 0 0)).setCell ⟨K, 0, none⟩ (.bool false))) := fin
    clear fin
    cases hn : o5 t with
    | none =>
     rw [hn] at hG
     have hG' : Calls Tryz.prog 136 #[str t] W fun e w' => e = .returned (.tuple #[.int .u16 0, .bool false]) ∧ W.grownBy w' none := hG
     clear hG
     gi_wp2_with (refine ⟨trivial, ?_⟩; gi_at_call 136; refine (CallsIn.inRound l (callsIn_wide.2 hG')).mono ?_; rintro e w1 ⟨rfl, G1⟩; have hR1 := E5 hRr G1 (fun r e => by cases e); have hc1 := hR1.cell; have hf1 := hR1.frozen; have hK1 := E5 hKk G1 (fun r e => by cases e); have hc2 := hK1.cell; have hf2 := hK1.frozen)
     exact HF.out w1 G1
    | some u =>
     rw [hn] at hG
     have hi8 : (8 : Int) ≤ (i : Int) := by
      rcases hbad with hb | hb
      ·rw [hn] at hb; cases hb
      ·omega
     have hG' : Calls Tryz.prog 136 #[str t] W fun e w' => e = .returned (.tuple #[.int .u16 (u : Int), .bool true]) ∧ W.grownBy w' none := hG
     clear hG hbad
     gi_wp2_with (refine ⟨trivial, ?_⟩; gi_at_call 136; refine (CallsIn.inRound l (callsIn_wide.2 hG')).mono ?_; rintro e w1 ⟨rfl, G1⟩; have hR1 := E5 hRr G1 (fun r e => by cases e); have hc1 := hR1.cell; have hf1 := hR1.frozen; have hK1 := E5 hKk G1 (fun r e => by cases e); have hc2 := hK1.cell; have hf2 := hK1.frozen)
     exact HF.out w1 G1
   ·obtain ⟨u, hu⟩ : ∃ u, o5 t = some u := by
     cases h : o5 t with
     | none => exact absurd (.inl h) hbad
     | some u => exact ⟨u, rfl⟩
    have hi8 : ¬ (8 : Int) ≤ (i : Int) := fun h => hbad (.inr (by omega))
    rw [hu] at hG
    have hG' : Calls Tryz.prog 136 #[str t] W fun e w' => e = .returned (.tuple #[.int .u16 (u : Int), .bool true]) ∧ W.grownBy w' none := hG
    have HV : Hid (P0 (pre ++ [(i, t)]) = P0 pre ++ [u]) := by
     show _ = _
     simp [P0, hu]
    have HGd : Hid (Y8 (pre ++ [(i, t)])) := (a40 _ _).2 ⟨hg, by rw [show o5 (i, t).2 = some u from hu]; rfl, by have h : ¬ 8 ≤ i := fun h => hbad (.inr h); simp only; omega⟩
    obtain ⟨ao, cap, rfl, -⟩ := L1 hrow
    clear hG hbad hg
    generalize P0 pre = us at *
    gi_wp2_with (first
     | (refine ⟨trivial, ?_⟩; gi_at_call 136; refine (CallsIn.inRound l (callsIn_wide.2 hG')).mono ?_; rintro e w1 ⟨rfl, G1⟩; have hO1 := E5 hO G1 (fun r e => by cases e); have hc1 := hO1.cell; have hrow1 := y8 hrow G1; have hl1 := G1.size)
     | (gi_at_builtin; refine wpListIn_append_own _ rfl _ _ 156 rfl w.heap.size 161 i0 (.int .u16 0) 1 2 Tryz.underlying156 hi hz0 hz1 hz2 rfl (by decide) _ _ _ rfl (hrow1.alloc _) ⟨w1.heap.size, 0, none⟩ 1 1 [M0 u] rfl rfl (cell_one_new _ _ _) (by simp [Value.oneCell', M0]) (by unfold maxLen; omega) (by omega) (by simp; omega) ?_; intro v' w2 hown' hgrow _; obtain ⟨g', cap', rfl⟩ := ownsRow_succ hown'; obtain ⟨hv1, hv2, hr2, hk2, hb2⟩ := hO1.appended (by decide) hrow1 (by omega) l1 hown' hgrow; have hc2 := hv1.cell; have hf2 := hv1.frozen))
    have bM1 := E5 hMm G1 (fun r e => by cases e)
    have bR1 := E5 hRr G1 (fun r e => by cases e)
    have bK1 := E5 hKk G1 (fun r e => by cases e)
    have far : ∀ {B : Nat} {t : TypeId} {x : Value}, Boxed w1 B t x → t ≠ 161 → B ≠ O → Boxed (w2.setCell ⟨O, 0, none⟩ (.slice (some ⟨g', 0, none⟩) (us.length + 1) cap')) B t x := fun {B t x} h ht hb => L9 _ (((h.alloc _).kept hgrow (h.not_row ht hrow1))) hb
    have bM2 := far bM1 (by decide) n1
    have bR2 := far bR1 (by decide) (Ne.symm n4)
    have bK2 := far bK1 (by decide) (Ne.symm n5)
    have hkk : KeepsOthers W w1 := KeepsOthers.of_grownBy G1 (fun _ _ e => by cases e)
    have hB1 : Below w.heap.size W w1 := (Below.refl _ _).grown G1 (by omega) (by simp)
    refine ⟨hkk.trans hk2, ⟨hB1.trans hb2, ?_⟩, ⟨⟨_, hv2, ?_, trivial⟩, HGd.out, bR2, bK2, bM2⟩, hB.trans (hB1.trans hb2)⟩
    ·rintro k o rfl ho -
     unfold Boxed at hMm bM2
     rw [hMm] at ho
     rw [bM2]
     exact ho
    ·rw [HV.out, List.length_append, List.map_append]
     exact hr2
  case done =>
   rintro D xs W hD rfl ⟨⟨⟨v, hO, hrow, -⟩, hg, hRr, hKk, -⟩, hB⟩ hK
   have HN : Hid (k6 (sl s) = some (P0 (y7 0 (f9 58 (sl s))))) := a78 (sl s) HNE.out hg
   obtain ⟨n1, n2, n3, n4, n5, n6, l1, l2, l3⟩ := ne.out
   have n6' : K ≠ R := Ne.symm n6
   obtain ⟨ao, cap, rfl, -⟩ := L1 hrow
   have hcO := hO.cell
   have hcR := hRr.cell
   have hfR := hRr.frozen
   have hcK := hKk.cell
   have hfK := hKk.frozen
   clear hg fR fK fO fS fM
   generalize P0 (y7 0 (f9 58 (sl s))) = us at *
   gi_wp2
   obtain ⟨X, hX⟩ : ∃ X, ((W.setCell ⟨R, 0, none⟩ (.slice ao us.length cap)).setCell ⟨K, 0, none⟩ (.bool true)) = X := ⟨_, rfl⟩
   rw [hX]
   have k1 : KeepsOthers W X := by rw [← hX]; exact (KeepsOthers.setCell _ _ _).trans (KeepsOthers.setCell _ _ _)
   have k2 : Boxed X R 156 (.slice ao us.length cap) := by rw [← hX]; exact L9 _ (hRr.set _) n6
   have k3 : Boxed X K 4 (.bool true) := by rw [← hX]; exact Boxed.set _ (L9 _ hKk n6')
   have k4 : Below w.heap.size w X := by rw [← hX]; exact (hB.setCell (p := ⟨R, 0, none⟩) l2 _).setCell (p := ⟨K, 0, none⟩) l3 _
   have k5 : X.ownsRow w.heap.size 161 1 (.slice ao us.length cap) us.length (us.map M0) := by
    rw [← hX]
    have r1 := hrow.kept (grownBy_setCell' W R (.slice ao us.length cap)) (.inr (hRr.not_row (by decide) hrow).symm)
    have bK : Boxed (W.setCell ⟨R, 0, none⟩ (.slice ao us.length cap)) K 4 (.bool false) := L9 _ hKk n6'
    exact r1.kept (grownBy_setCell' _ K (.bool true)) (.inr (bK.not_row (by decide) r1).symm)
   clear hX
   have hK' := k1.same D _ hK rfl
   refine ⟨by simp, .inl ⟨_, _, rfl, run_takeDeferred hK', ?_⟩⟩
   have hr : ∀ r, some D = some r → ∃ o : Obj, X.heap[r]? = some o ∧ o.isCells = false := fun r e => by cases e; exact ⟨_, hK', rfl⟩
   refine ⟨_, a30 rfl _ _ R K (.slice ao us.length cap) (.bool true) rfl rfl (E5 k2 (grownBy_putObj' _ D (.deferred none)) hr) (E5 k3 (grownBy_putObj' _ D (.deferred none)) hr) (run_isAgg_plain Tryz.underlying156 rfl _) (run_isAgg_plain Tryz.underlying4 rfl _), ?_⟩
   refine ⟨.slice ao us.length cap, ?_, ?_, ?_⟩
   ·rw [HN.out]; rfl
   ·rw [HN.out]; exact ownsRow_putObj k5 _ hK' rfl
   ·exact a0h (k4.trans (belowK_b (w := w) (Nat.le_refl _) _ D _ _ (by omega) hK' rfl rfl))
  case stop =>
   rintro D c pre W hD hpre ⟨⟨rfl, hbad, hRr, hKk⟩, hB⟩ hK
   have HN : Hid (k6 (sl s) = none) := a87 (sl s) HNE.out hpre hbad
   gi_wp2
   refine ⟨by simp, .inl ⟨_, _, rfl, run_takeDeferred hK, ?_⟩⟩
   have hr : ∀ r, some D = some r → ∃ o : Obj, W.heap[r]? = some o ∧ o.isCells = false := fun r e => by cases e; exact ⟨_, hK, rfl⟩
   refine ⟨_, a30 rfl _ _ R K (.slice none 0 0) (.bool false) rfl rfl (E5 hRr (grownBy_putObj' _ D (.deferred none)) hr) (E5 hKk (grownBy_putObj' _ D (.deferred none)) hr) (run_isAgg_plain Tryz.underlying156 rfl _) (run_isAgg_plain Tryz.underlying4 rfl _), ?_⟩
   refine ⟨.slice none 0 0, ?_, ?_, ?_⟩
   ·rw [HN.out]; rfl
   ·rw [HN.out]; exact World.ownsRow_nil _ _ _ _
   ·exact a0h (hB.trans (belowK_b (w := w) (Nat.le_refl _) W D _ _ (by omega) hK rfl rfl))

end Go.Proofs.YtlfmddjppejmaaaGreatDoor
