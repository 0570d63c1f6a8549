import Derived.Test.YtlfmddjppejmaaaGreatDoorqAb
import Derived.Test.YtlfmddjppejmaaaGreatDoorqLotQ13
import Derived.Test.YtlfmddjppejmaaaGreatDoorqLotQ14
import Derived.Deep.MidRow
import Derived.BigQuiet
import Derived.Deep.RegionHeld
import Derived.Test.YtlfmddjppejmaaaGreatDoorqLotQ43
import Derived.Deep.DeepCutAuto
import Derived.Test.YtlfmddjppejmaaaGreatDoorqLotQ1
import Derived.Test.YtlfmddjppejmaaaGreatDoorRows
import Derived.ProofKit
import Derived.OpenShut
import Derived.ShutString
import Derived.ChangeOld
import Derived.SizedLaws
import Derived.JoinedCond
import Derived.Test.YtlfmddjppejmaaaGreatDoorCards
import Derived.Test.YtlfmddjppejmaaaGreatDoorTie
import Derived.Test.YtlfmddjppejmaaaGreatDoorqLotQ8
import Derived.Deep.DeepHandedRow
import Derived.Deep.DeepWitnessRowRef
import Derived.Stop.LaidErr
import Derived.SliceStrings
import Derived.Lay
set_option maxHeartbeats 64000000
set_option maxRecDepth 100000
namespace Go.Proofs.YtlfmddjppejmaaaGreatDoor
open Go.RowKit
def mkQ : Nd := { ndK 77 with n := 7 }
def mkB : Array Value := #[.int .i64 77, .int .i64 0, .int .u32 7, .int .u32 0, .int .i64 0, .int .i64 0, .int .i64 0, .int .u8 0, .int .u8 0, .int .u8 0, .int .u8 0, .int .u8 0, .int .u8 0, .int .u8 0, .int .u8 0, .int .u8 0, .int .u8 0, .int .u8 0, .int .u8 0, .int .u8 0, .int .u8 0, .int .u8 0, .int .u8 0, .int .i64 0]
theorem a4x : (Tryz.prog.info? 54).map (·.size) = some mkB.size := a0W
theorem a4w : mkB.all (·.oneCell') = true := by simp [mkB, Value.oneCell']
theorem a4m (W : World) : (Instr.buildSlice 22 1 #[(0, .agg mkB)]).run Tryz.prog W = .ok (.slice (some ⟨W.heap.size, 0, none⟩) 1 1) (W.alloc (.cells (y6 [mkQ]).toArray 54)) := by kernel_rfl
theorem a2I {w : World} {e : TypeId} {g n : Nat} (b : Nat) : ∀ (vs : List Value) (o : Nat) (w : World), s6 w e g n → s6 (w.setCells b o vs) e g n
 | [], _, _, h => h
 | v :: r, o, _, h => a2I (w := w) b r (o + 1) _ (h.setCell _ v)
theorem a4E {w : World} {row : Option Nat} (b : Nat) (hp : row = some b ∨ w.heap.size ≤ b) : ∀ (vs : List Value) (o : Nat) (W : World), w.grownBy W row → w.grownBy (W.setCells b o vs) row
 | [], _, _, h => h
 | v :: r, o, _, h => a4E b hp r (o + 1) _ (L5 h ⟨b, o, none⟩ v hp)
theorem s6.thereQ {w : World} {e : TypeId} {g n : Nat} (h : s6 w e g n) {o m : Nat} (hm : o + m ≤ n) : w.there g o m := fun j hj => by
 obtain ⟨u, hu⟩ := h.cell (i := o + j) (by omega)
 exact ⟨by rw [hu]; rfl, h.free _⟩
def a01 (w : World) (row : Option Nat) (g g' n n' : Nat) (wr : World) : Prop := s6 wr 54 g n ∧ s6 wr 54 g' n' ∧ w.grownBy wr row
theorem a01.set {w wr : World} {row : Option Nat} {g g' n n' : Nat} (h : a01 w row g g' n n' wr) {b : Nat} (o : Nat) (vs : List Value) (hp : row = some b ∨ w.heap.size ≤ b) : a01 w row g g' n n' (wr.setCells b o vs) :=
 ⟨a2I (w := w) b vs o wr h.1, a2I (w := w) b vs o wr h.2.1, a4E b hp vs o wr h.2.2⟩
theorem a89 (g n cap : Nat) (w : World) (hb : s6 w 54 g (cap * 24)) (hn : n ≤ cap) (hcm : cap ≤ maxLen) (hm : (n + 1) * 72 ≤ 140737488355328) :
  Calls Tryz.prog 8 #[.slice (some ⟨g, 0, none⟩) n cap] w fun e w' => e = .returned (.tuple #[]) ∧ w.grownBy w' (some g) := by
 obtain ⟨i0, hi, hz0, hz1, hz2⟩ := info_parts a1K
 have H : Hid (s6 w 54 g (cap * 24)) := hb
 have HLM := a4m
 have HMS : Hid ((Tryz.prog.info? 54).map (·.size) = some mkB.size ∧ mkB.all (·.oneCell') = true) := ⟨a4x, a4w⟩
 have HMB : Hid (∀ W : World, (Instr.build 54 #[(0, .int .i64 77), (2, .int .u32 7)]).run Tryz.prog W = .ok (.agg mkB) W) := fun W => by kernel_rfl
 have HM24 : Hid (24 = mkB.size) := rfl
 obtain ⟨M, hM⟩ : ∃ M, mkB = M := ⟨_, rfl⟩
 rw [hM] at HMS HMB HM24
 rw [hM] at HLM
 clear hb hM
 go_enter Tryz.func8, Tryz.ntmps8
 go_wp2_with (first | refine o6 rfl 54 _ rfl _ (by kernel_rfl) (.agg M) HMB.out ?_ | (refine a5E (by rfl) 22 1 _ rfl _ (by kernel_rfl) (y6 [mkQ]) 54 HLM ?_; intro V wl CL KL) | (at_builtin; refine a5D rfl (.tmp 5) (.tmp 7) 22 rfl 54 i0 _ 24 72 Tryz.underlying22 hi hz0 hz1 hz2 rfl (by decide) g n cap rfl (H.out.kept KL (by simp)) hn hcm ⟨V, 0, none⟩ 1 1 (y6 [mkQ]) rfl rfl CL (a3U _) ?q3 ?q4 ?q5))
 case q3 => unfold maxLen; omega
 case q4 => omega
 case q5 =>
  intro g' cap' w1 hg' hb1 hb2 hc' hcm' hgr
  have R : a01 w (some g) g g' (cap * 24) (cap' * 24) w1 := ⟨hb1, hb2, d5 (a2t KL) hgr⟩
  have hp : some g = some g' ∨ w.heap.size ≤ g' := by
   rcases hg' with e | e
   ·exact .inl (by rw [e])
   ·right; have := KL.size; omega
  clear hg' hb1 hb2 hgr CL KL HLM
  unfold maxLen at hcm hcm'
  go_wp2
  go_loopw [3] (fun i wr => ∃ k : Nat, k ≤ n + 1 ∧ i = .int .i64 k ∧ a01 w (some g) g g' (cap * 24) (cap' * 24) wr) (fun i _ => n + 1 - (intOf i).toNat)
  case atStart => exact ⟨0, Nat.zero_le _, rfl, R⟩
  case round =>
   clear R
   obtain ⟨k, hk, rfl, R⟩ := hrel
   by_cases hlt : k < n + 1
   ·have HTH : Hid (wr.there g' (k * 24) M.size) := R.2.1.thereQ (by rw [← HM24.out]; omega)
    have R' := R.set (k * 24) M.toList hp
    have hl : (k : Int) < (n : Int) + 1 := by omega
    have z0 : (0 : Int) ≤ (k : Int) := by omega
    clear R
    go_wp2_with (first | refine o6 rfl 54 _ rfl _ (by kernel_rfl) (.agg M) HMB.out ?_ | refine wpList_store_mid rfl 54 (.tmp 18) (.tmp 17) rfl g' (k * 24) M (by simp [Act.eval]) rfl HTH.out HMS.out.1 HMS.out.2 ?_)
    go_roundw
    case rel => exact ⟨k + 1, by omega, by go_num, R'⟩
    case measure => simp [intOf]; omega
   ·go_wp2
    clear hk hlt
    go_loopw [4] (fun i wr => ∃ k : Nat, k ≤ n ∧ i = .int .i64 k ∧ a01 w (some g) g g' (cap * 24) (cap' * 24) wr) (fun i _ => n - (intOf i).toNat)
    case atStart => exact ⟨0, Nat.zero_le _, rfl, R⟩
    case round =>
     clear R
     obtain ⟨k, hk, rfl, R⟩ := hrel
     by_cases hlt : k < n
     ·have HTH : Hid (wr.there g (k * 24) M.size) := R.1.thereQ (by rw [← HM24.out]; omega)
      have R' := R.set (b := g) (k * 24) M.toList (.inl rfl)
      have hl : (k : Int) < (n : Int) := by omega
      have z0 : (0 : Int) ≤ (k : Int) := by omega
      clear R
      go_wp2_with (first | refine o6 rfl 54 _ rfl _ (by kernel_rfl) (.agg M) HMB.out ?_ | refine wpList_store_mid rfl 54 (.tmp 28) (.tmp 27) rfl g (k * 24) M (by simp [Act.eval]) rfl HTH.out HMS.out.1 HMS.out.2 ?_)
      go_roundw
      case rel => exact ⟨k + 1, by omega, by go_num, R'⟩
      case measure => simp [intOf]; omega
     ·go_wp2
      go_end0
      exact ⟨rfl, R.2.2⟩
theorem a8a (w : World) :
  Calls Tryz.prog 8 #[.slice none 0 0] w fun e w' => e = .returned (.tuple #[]) ∧ w.grownBy w' none := by
 obtain ⟨i0, hi, hz0, hz1, hz2⟩ := info_parts a1K
 have HLM := a4m
 have HMS : Hid ((Tryz.prog.info? 54).map (·.size) = some mkB.size ∧ mkB.all (·.oneCell') = true) := ⟨a4x, a4w⟩
 have HMB : Hid (∀ W : World, (Instr.build 54 #[(0, .int .i64 77), (2, .int .u32 7)]).run Tryz.prog W = .ok (.agg mkB) W) := fun W => by kernel_rfl
 have HM24 : Hid (24 = mkB.size) := rfl
 obtain ⟨M, hM⟩ : ∃ M, mkB = M := ⟨_, rfl⟩
 rw [hM] at HMS HMB HM24
 rw [hM] at HLM
 clear hM
 go_enter Tryz.func8, Tryz.ntmps8
 go_wp2_with (first | refine o6 rfl 54 _ rfl _ (by kernel_rfl) (.agg M) HMB.out ?_ | (refine a5E (by rfl) 22 1 _ rfl _ (by kernel_rfl) (y6 [mkQ]) 54 HLM ?_; intro V wl CL KL) | (at_builtin; refine Y5 rfl (.tmp 5) (.tmp 7) 22 rfl 54 i0 _ 24 72 Tryz.underlying22 hi hz0 hz1 hz2 rfl (by decide) w.heap.size _ 0 [] rfl ?q1 (some ⟨V, 0, none⟩) 1 1 (y6 [mkQ]) rfl rfl (by simp) CL (a3U _) ?q3 ?q4 ?q5 ?q6))
 case q1 => exact World.ownsRow_nil _ _ _ _
 case q3 => unfold maxLen; omega
 case q4 => omega
 case q5 => exact KL.size
 case q6 =>
  intro v' w1 h1 h2
  obtain ⟨g', cap', hv, hc, hcm, hg1, hg2⟩ := a1X h1 (by omega)
  subst hv
  have hb2 : s6 w1 54 g' (cap' * 24) := (s6.ofRow (n := 1) h1).1
  have hgr : w.grownBy w1 none := d5 (a2t KL) h2
  have R : a01 w none g' g' (cap' * 24) (cap' * 24) w1 := ⟨hb2, hb2, hgr⟩
  have hp : none = some g' ∨ w.heap.size ≤ g' := .inr hg1
  clear hb2 hgr h1 h2 CL KL HLM
  unfold maxLen at hcm
  go_wp2
  go_loopw [3] (fun i wr => ∃ k : Nat, k ≤ 1 ∧ i = .int .i64 k ∧ a01 w none g' g' (cap' * 24) (cap' * 24) wr) (fun i _ => 1 - (intOf i).toNat)
  case atStart => exact ⟨0, Nat.zero_le _, rfl, R⟩
  case round =>
   clear R
   obtain ⟨k, hk, rfl, R⟩ := hrel
   by_cases hlt : k < 1
   ·obtain rfl : k = 0 := by omega
    have HTH : Hid (wr.there g' 0 M.size) := R.2.1.thereQ (by rw [← HM24.out]; omega)
    have R' := R.set 0 M.toList hp
    clear R
    go_wp2_with (first | refine o6 rfl 54 _ rfl _ (by kernel_rfl) (.agg M) HMB.out ?_ | refine wpList_store_mid rfl 54 (.tmp 18) (.tmp 17) rfl g' 0 M (by simp [Act.eval]) rfl HTH.out HMS.out.1 HMS.out.2 ?_)
    go_roundw
    case rel => exact ⟨1, by omega, by go_num, R'⟩
    case measure => simp [intOf]
   ·obtain rfl : k = 1 := by omega
    go_wp2
    refine wp_loop_rounds 1 ?_
    rw [rounds_succ]
    go_wp2
    go_end0
    exact ⟨rfl, R.2.2⟩
theorem a8b {base : Nat} {v : Value} {xs : List Nd} (w : World) (h : S2 w base v xs) (hm : (xs.length + 1) * 72 ≤ 140737488355328) :
  Calls Tryz.prog 8 #[v] w fun e w' => e = .returned (.tuple #[]) ∧ w.grownBy w' v.ownBlock := by
 rcases h.2 with ⟨rfl, h0⟩ | ⟨g, cap, cur, rfl, hb, hg, hc, hcm, hs, ht⟩
 ·have e : xs = [] := List.eq_nil_of_length_eq_zero h0
  subst e
  exact a8a w
 ·exact a89 g xs.length cap w ⟨cur, hg, hs⟩ hc hcm hm
theorem a4D (a b : Option Addr) (ca cb : Nat) (xs : List Nd) (w : World) (ha : CV w a (y6 xs)) (hb : CV w b (y6 xs)) (hm : xs.length ≤ 9223372036854775807) :
  Calls Tryz.prog 6 #[.slice a xs.length ca, .slice b xs.length cb] w fun e w' => e = .returned (.bool true) ∧ ∃ n, w' = w.drewN n := by
 have hne : ((xs.length : Int) != (xs.length : Int)) = false := by simp
 go_enter Tryz.func6, Tryz.ntmps6
 go_wp2
 go_loopw [5] (fun i wr => ∃ k : Nat, k ≤ xs.length ∧ i = .int .i64 k ∧ ∃ n, wr = w.drewN n) (fun i _ => xs.length - (intOf i).toNat)
 case atStart => exact ⟨0, Nat.zero_le _, rfl, 0, rfl⟩
 case round =>
  obtain ⟨k, hk, rfl, n, rfl⟩ := hrel
  by_cases hlt : k < xs.length
  ·obtain ⟨b1, o1, rfl, -⟩ := ha.nodes hlt
   obtain ⟨b2, o2, rfl, -⟩ := hb.nodes hlt
   have HA : Hid (∀ W, (∃ n, W = w.drewN n) → W.rangeAt b1 (o1 + k * 24) xs[k].cells) := fun W ⟨n, hW⟩ => by
    obtain ⟨b, o, e, h⟩ := (ha.keptNone (hW ▸ f8 w n none)).nodes hlt
    simp only [Option.some.injEq, Addr.mk.injEq] at e
    obtain ⟨rfl, rfl, -⟩ := e
    exact h k hlt
   have HB : Hid (∀ W, (∃ n, W = w.drewN n) → W.rangeAt b2 (o2 + k * 24) xs[k].cells) := fun W ⟨n, hW⟩ => by
    obtain ⟨b, o, e, h⟩ := (hb.keptNone (hW ▸ f8 w n none)).nodes hlt
    simp only [Option.some.injEq, Addr.mk.injEq] at e
    obtain ⟨rfl, rfl, -⟩ := e
    exact h k hlt
   have HEQ := fun W => a4C xs[k] W
   have HSZ : xs[k].cells.length = 24 := rfl
   have HS : Hid ((Tryz.prog.info? 54).map (·.size) = some xs[k].cells.length) := a0W
   clear ha hb HSZ
   generalize xs[k].cells = cs at *
   have hl : (k : Int) < (xs.length : Int) := by omega
   have z0 : (0 : Int) ≤ (k : Int) := by omega
   go_upto_region 6 with fail
   refine wp_region_held_drew (S := fun W => ∃ n, W = w.drewN n) (by kernel_rfl) ⟨n + 1, rfl⟩ (fun hHeld => ?_)
   refine wpT (i := 0) (v := .slice (some ⟨b1, o1, none⟩) xs.length ca) rfl (Or.inl ⟨by rfl, fun W hW => ?_⟩) hHeld ?_
   ·clear hW
    go_simp
   try simp only [Act.put, a0, a1, a3, a4, a5]
   refine wpT (i := 1) (v := .int .i64 (k : Int)) rfl (Or.inl ⟨by rfl, fun W hW => ?_⟩) hHeld ?_
   ·clear hW
    go_simp
   try simp only [Act.put, a0, a1, a2, a3, a4, a5]
   refine wpT (i := 2) (v := .pointer (some ⟨b1, o1 + k * 24, none⟩)) rfl (Or.inl ⟨by rfl, fun W hW => ?_⟩) hHeld ?_
   ·clear hW
    go_simp
   try simp only [Act.put, a0, a1, a2, a3, a4, a5]
   refine wpT (i := 3) (v := .agg cs.toArray) rfl (yieldsIf_load_mid (by rfl) _ _ rfl _ _ rfl cs _ (fun W hW => HA.out W hW) Tryz.underlying54 rfl HS.out) hHeld ?_
   try simp only [Act.put, a0, a1, a2, a3, a4, a5]
   refine wpT (i := 4) (v := .slice (some ⟨b2, o2, none⟩) xs.length cb) rfl (Or.inl ⟨by rfl, fun W hW => ?_⟩) hHeld ?_
   ·clear hW
    go_simp
   try simp only [Act.put, a0, a1, a2, a3, a4, a5]
   refine wpT (i := 5) (v := .int .i64 (k : Int)) rfl (Or.inl ⟨by rfl, fun W hW => ?_⟩) hHeld ?_
   ·clear hW
    go_simp
   try simp only [Act.put, a0, a1, a2, a3, a4, a5]
   refine wpT (i := 6) (v := .pointer (some ⟨b2, o2 + k * 24, none⟩)) rfl (Or.inl ⟨by rfl, fun W hW => ?_⟩) hHeld ?_
   ·clear hW
    go_simp
   try simp only [Act.put, a0, a1, a2, a3, a4, a5]
   refine wpT (i := 7) (v := .agg cs.toArray) rfl (yieldsIf_load_mid (by rfl) _ _ rfl _ _ rfl cs _ (fun W hW => HB.out W hW) Tryz.underlying54 rfl HS.out) hHeld ?_
   try simp only [Act.put, a0, a1, a2, a3, a4, a5]
   refine wpT (i := 8) (v := .bool false) rfl (Or.inl ⟨by rfl, fun W hW => ?_⟩) hHeld ?_
   ·clear hW
    go_simp
   try simp only [Act.put, a0, a1, a2, a3, a4, a5]
   refine wpAnyH_done (by kernel_rfl) ?_ _
   clear HA HB HS HEQ
   go_wp2
   go_roundw
   case rel => exact ⟨k + 1, by omega, by go_num, hHeld⟩
   case measure => simp [intOf]; omega
  ·go_wp2
   go_ret
   exact ⟨rfl, n, rfl⟩
def a3b : List (Nd × Nat) := [(I8 2, 0), (I8 5, 11), (ndK 9, 7), (ndK 7, 3)]
theorem a8p : J1 [105, 112, 32, 97, 110, 100, 32, 110, 111, 116, 32, 117, 100, 112] = .ok a3b := by kernel_rfl
theorem a8q : J1 [105, 112, 32, 117, 100, 112] = .error (3, 111) := by kernel_rfl
theorem S2.nodes {w : World} {base : Nat} {v : Value} {xs : List Nd} (h : S2 w base v xs) (hx : 0 < xs.length) : ∃ g cap, v = .slice (some ⟨g, 0, none⟩) xs.length cap ∧ ∀ i (hi : i < xs.length), w.rangeAt g (i * 24) xs[i].cells := by
 obtain ⟨g, cap, hv, -⟩ := a1X h hx
 obtain ⟨ao, cap', hv', C, -⟩ := L1 h
 rw [hv] at hv'
 simp only [Value.slice.injEq, true_and] at hv'
 obtain ⟨rfl, rfl⟩ := hv'
 refine ⟨g, cap, hv, fun i hi => ?_⟩
 obtain ⟨b, off, e, hc⟩ := C.nodes hi
 simp only [Option.some.injEq, Addr.mk.injEq] at e
 obtain ⟨rfl, rfl, -⟩ := e
 have := hc i hi
 simpa using this
theorem ai6 {P : Program} {ops : Array Oper} {rest : List Oper} {op : Oper} {a : Act} {w : World} {Q : Exit → Act → World → Prop} (hw : Region.wanted op (yielded ops a.tmps) = true) (ty : TypeId) (x : Operand) (ho : op.op = .load ty x)
  (b o : Nat) (hx : a.eval x = .pointer (some ⟨b, o, none⟩)) (cs : List Value) (d : TypeDesc) (hc : w.rangeAt b o cs)
  (hu : P.underlying ty = some d) (hd : d.isRow = true) (hi : (P.info? ty).map (·.size) = some cs.length)
  (h : wpList P ops Q rest (a.put op.dst (.agg cs.toArray)) w) : wpList P ops Q (op :: rest) a w :=
 BigFrame.wpList_want hw fun _ hK => wp_load_mid ty x ho b o hx cs d hc hu hd hi (hK _ _ h)
theorem a5R (w : World) (T : S3 w) : Calls Tryz.prog 10 #[] w fun e w' => e = .returned (.bool true) ∧ w.grownBy w' none := by
 have C1 := a2T ⟨#[105, 112, 32, 97, 110, 100, 32, 110, 111, 116, 32, 117, 100, 112]⟩ (by decide) w T
 rw [show sl ⟨#[105, 112, 32, 97, 110, 100, 32, 110, 111, 116, 32, 117, 100, 112]⟩ = [105, 112, 32, 97, 110, 100, 32, 110, 111, 116, 32, 117, 100, 112] from rfl, a8p] at C1
 have HC2 : Hid (∀ W, S3 W → Calls Tryz.prog 5 #[.string ⟨#[105, 112, 32, 117, 100, 112]⟩] W fun e w' => ∃ vt vp, e = .returned (.tuple #[vt, vp, .int .i64 3, .int .i64 111]) ∧ W.grownBy w' none) := fun W TW => by
  have := a2T ⟨#[105, 112, 32, 117, 100, 112]⟩ (by decide) W TW
  rw [show sl ⟨#[105, 112, 32, 117, 100, 112]⟩ = [105, 112, 32, 117, 100, 112] from rfl, a8q] at this
  exact this.mono fun e w' ⟨a, b, h1, _, _, h2⟩ => ⟨a, b, h1, h2⟩
 have HT : Hid (S3 w) := T
 simp only [prP, prE, prN] at C1
 clear T
 go_enter Tryz.func10, Tryz.ntmps10
 go_wp2_with fail
 refine C1.mono ?_
 rintro e w1 ⟨vt, vp, rfl, O1, Z1, G1⟩
 have C2 := HC2.out w1 (HT.out.grown G1)
 clear C1 HC2
 go_wp2_with fail
 refine C2.mono ?_
 rintro e w2 ⟨va, vb, rfl, G2⟩
 have O2 := y8 O1 G2
 have Z2 := y8 Z1 G2
 clear C2 O1 Z1
 obtain ⟨g, cap, hv, hc⟩ := S2.nodes O2 (by decide)
 obtain ⟨pa, pc, hp, PC, -⟩ := L1 Z2
 have R0 := hc 0 (by decide)
 have R3 := hc 3 (by decide)
 subst hv hp
 have R0' : w2.rangeAt g 0 (I8 2).cells := R0
 have k3 : w2.cell? ⟨g, 72, none⟩ = some (.int .i64 7) := R3 0 _ rfl
 have HC : Hid (CV w2 pa ([0, 11, 7, 3].map iv)) := PC
 clear R0 R3 hc O2 Z2 PC
 have HEQ := fun W => a4C (I8 2) W
 rw [a0w] at R0' HEQ
 rw [show ((2 : Nat) : Int) = 2 from rfl] at R0' HEQ
 rw [show (a3b.map Prod.fst).length = 4 from rfl, show (a3b.map plc).length = 4 from rfl]
 have KA := World.grownBy_alloc w2 (.cells #[.int .i64 0, .int .i64 11, .int .i64 7, .int .i64 3] 3) none
 have CSI := a3d pa (some ⟨w2.heap.size, 0, none⟩) pc 4 [0, 11, 7, 3] (w2.alloc (.cells #[.int .i64 0, .int .i64 11, .int .i64 7, .int .i64 3] 3)) (HC.out.keptNone KA) (m8 w2 _ _) (by decide)
 rw [show ([0, 11, 7, 3] : List Int).length = 4 from rfl] at CSI
 have G3 := d5 (d5 G1 G2) KA
 clear HC KA G1 G2
 go_wp2_with (refine ai6 rfl 54 (.tmp 30) rfl g 0 rfl _ _ R0' Tryz.underlying54 rfl a0W ?_)
 refine CSI.mono ?_
 rintro e w3 ⟨rfl, n, rfl⟩
 clear CSI
 go_wp2
 go_ret
 exact ⟨rfl, d5 G3 (f8 _ _ _)⟩

open Go.ChangeShapes Go.WideShapes Go.ChangeAt Go.RowKit
theorem own : ownKnob Tryz.prog.godebug = none := by kernel_rfl

open Go.ChangeShapes Go.WideShapes Go.ChangeAt Go.RowKit
def a1j : List (String × DataW Unit) := [("math/bits.deBruijn32tab", Rows.laid_math_bits_deBruijn32tab), ("math/bits.deBruijn64tab", Rows.laid_math_bits_deBruijn64tab), ("internal/strconv.uint64pow10", Rows.laid_internal_strconv_uint64pow10), ("strconv.ErrRange", Rows.laid_strconv_ErrRange), ("strconv.ErrSyntax", Rows.laid_strconv_ErrSyntax), ("riddle/lex.signs", Rows.laid_riddle_lex_signs)]
theorem a5h : Tryz.prog.globalNamed "riddle/lex.signs" = some 0 := by kernel_rfl
theorem ae6 : (Tryz.prog.globals[0]?).map (·.type) = some 94 := by kernel_rfl
theorem ae4 : Tryz.prog.cellsOf 9 = 1 := by kernel_rfl
theorem a6R : Tryz.prog.globalNamed "strconv.ErrSyntax" = some 1 := by kernel_rfl
theorem a6S : (Tryz.prog.globals[1]?).map (·.type) = some 91 := by kernel_rfl
theorem a6P : Tryz.prog.globalNamed "strconv.ErrRange" = some 2 := by kernel_rfl
theorem a6Q : (Tryz.prog.globals[2]?).map (·.type) = some 91 := by kernel_rfl
theorem ae5 : (Rows.laid_riddle_lex_signs : DataW Unit) = .slice (T1.map fun l => .lit (.string l)) [] := by kernel_rfl
theorem a4a {W : World} {n nm : String} {d : DataW Unit} {r : List (String × DataW Unit)} {g : Nat} (h : laidMet Tryz.prog ((n, .iface nm d) :: r) W) (hg : Tryz.prog.globalNamed n = some g) (ht : (Tryz.prog.globals[g]?).map (·.type) = some 91) :
  ∃ t v, W.cell? ⟨g, 0, none⟩ = some (.iface t v) := by
 obtain ⟨ps, ⟨g', t', cs, fuel, p, q, hg', ht', hv, hd, _, _⟩, _⟩ := h
 obtain rfl := Option.some.inj (hg.symm.trans hg')
 obtain rfl := Option.some.inj (ht.symm.trans ht')
 obtain ⟨l⟩ := cs
 obtain ⟨f1, u, v, hl, -, -⟩ := iface_of_trod Tryz.underlying91 hd
 simp only at hl
 subst hl
 exact ⟨u, v, by simpa using World.var?_cell hg hv 0⟩
theorem af6 {W : World} {r : List (String × DataW Unit)} (h : laidMet Tryz.prog (("riddle/lex.signs", Rows.laid_riddle_lex_signs) :: r) W) :
  ∃ ao cap, W.cell? ⟨0, 0, none⟩ = some (.slice ao 25 cap) ∧ CV W ao (T1.map str) := by
 obtain ⟨ps, ⟨g', t', cs, fuel, p, q, hg', ht', hv, hd, _, _⟩, _⟩ := h
 obtain rfl := Option.some.inj (a5h.symm.trans hg')
 obtain rfl := Option.some.inj (ae6.symm.trans ht')
 obtain ⟨l⟩ := cs
 rw [ae5] at hd
 have hlen : T1.length = 25 := rfl
 rcases open_strings Tryz.underlying94 Tryz.underlying9 ae4 hd with ⟨_, hx⟩ | ⟨a, len, cap, ss, hcs, _, hl, hm, hz, hx, hcell, hsz⟩
 ·simp at hx
 ·simp only at hcs
  subst hcs
  simp only [Prod.mk.injEq, DataW.slice.injEq] at hx
  have h1 := hx.1.1
  have hll : len = 25 := by
   have := congrArg List.length h1
   have hle : len ≤ ss.length := by rw [hz]; split <;> omega
   simp [strs, hlen] at this
   omega
  subst hll
  have hle : 25 ≤ ss.length := by rw [hz]; split <;> omega
  refine ⟨some a, cap, by simpa using World.var?_cell a5h hv 0, fun h => (by cases h), fun ad had i hi => ?_⟩
  obtain rfl := Option.some.inj had
  rw [List.length_map, hlen] at hi
  have hc := hcell i (by omega)
  rw [hc]
  have h2 := congrArg (·[i]?) h1
  simp only [strs, List.getElem?_map, List.getElem?_take] at h2
  rw [if_pos hi, List.getElem?_eq_getElem (by omega : i < ss.length), List.getElem?_eq_getElem (by rw [hlen]; exact hi)] at h2
  simp only [Option.map_some, Option.some.injEq, DataW.lit.injEq, Lit.string.injEq] at h2
  rw [List.getElem_map, List.getD_eq_getElem?_getD, List.getElem?_eq_getElem (by omega : i < ss.length), Option.getD_some, h2, str]
theorem a7w {W : World} (h : laidMetH Tryz.prog a1j W) (_ : W.ShapedOpen Tryz.prog) : Tab W := by
 have h1 : laidMet Tryz.prog a1j W := h
 have h2 := h1.tail.tail.tail
 have h3 := h2.tail
 have h4 := h3.tail
 exact ⟨af6 h4, a4a h3 a6R a6S, a4a h2 a6P a6Q⟩

noncomputable def a2A (os : Os) : World := World.laidAll Tryz.prog os a1j
theorem a7v (os : Os) (args : Array Value) : laidMet Tryz.prog a1j ((a2A os).forCall (fun _ _ => 0) ⟨#[], args, []⟩).memory :=
 laidMet_laidAll args (by kernel_rfl) (by kernel_rfl)

open Go.ChangeShapes Go.WideShapes Go.ChangeAt Go.RowKit
theorem a7x {W : World} (h : laidMetH Tryz.prog a1j W) (hsh : W.ShapedOpen Tryz.prog) : S3 W :=
 ⟨a7w h hsh, cell_of_shapedOpen_int (zero := #[.int .i64 0]) (t := 3) hsh (of_decide_eq_true (by kernel_rfl)) (by kernel_rfl) rfl (by kernel_rfl) (by kernel_rfl) Tryz.underlying3⟩

end Go.Proofs.YtlfmddjppejmaaaGreatDoor
