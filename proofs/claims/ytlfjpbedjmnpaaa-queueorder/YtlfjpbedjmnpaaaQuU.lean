/-
  The document's own queue: Drain.
-/
import Derived.Test.YtlfjpbedjmnpaaaQuT
namespace Go.Proofs.Ytlfjpbedjmnpaaa
open Go.RowKit
set_option maxRecDepth 100000

def slen : Value → Nat
  | .slice _ n _ => n
  | _ => 0

/-- What Drain leaves. -/
def DrainsR (w : World) (base : Nat) (q : Rq) (e : Ending) (w' : World) : Prop :=
  ∃ v, ∃ fs : List Fr, ∃ q' : Rq, e = .returned v ∧ fs.map Fr.b = allP q.abs ∧ q'.g = q.g ∧ q'.abs = q.abs.map Qc.clear ∧ RqAt w' base q' ∧ GW w w' q.foot ∧ Foots w q.foot q'.foot ∧ ORow w' w.heap.size 35 v (fs.map Fr.v) ∧ (∀ f ∈ fs, Owns w' base f.v f.b)

/-- While it is drained. -/
structure DrI (w : World) (base : Nat) (q : Rq) (v : Value) (fs : List Fr) (qk : Rq) (wr : World) : Prop where
  at' : RqAt wr base qk
  g : qk.g = q.g
  all : fs.map Fr.b ++ allP qk.abs = allP q.abs
  clr : qk.abs.map Qc.clear = q.abs.map Qc.clear
  gw : GW w wr q.foot
  ft : Foots w q.foot qk.foot
  row : ORow wr w.heap.size 35 v (fs.map Fr.v)
  nv : ∀ x, v.ownBlock = some x → ¬ qk.foot x
  own : ∀ f ∈ fs, Owns wr base f.v f.b
  out : ∀ f ∈ fs, ∀ x, f.v.ownBlock = some x → ¬ qk.foot x

/-- One frame more. -/
theorem DrI.step {w wr w2 w3 w4 : World} {base : Nat} {q qk q' : Rq} {v v4 p : Value} {b : List UInt8} {fs : List Fr} {n : Nat} (h : DrI w base q v fs qk wr) (ht : takeP qk.abs = some (n, b, q'.abs)) (A : RqAt w2 base q') (hg : q'.g = qk.g) (G : GW wr w2 qk.foot) (F : Foots wr qk.foot q'.foot) (O : Owns w2 base p b) (hp : ∀ x, p.ownBlock = some x → qk.foot x ∧ ¬ q'.foot x)
    (K : w2.grownBy w3 none) (R4 : ORow w4 w.heap.size 35 v4 (fs.map Fr.v ++ [p])) (K4 : w3.grownBy w4 v.ownBlock) (B4 : v4.ownBlock = v.ownBlock ∨ ∀ y, v4.ownBlock = some y → w3.heap.size ≤ y) : DrI w base q v4 (fs ++ [⟨p, b⟩]) q' w4 := by
  obtain ⟨t1, t2, _, _⟩ := take_yes qk.abs n b q'.abs ht
  have hvn : ∀ x, v.ownBlock = some x → w.heap.size ≤ x ∧ x < wr.heap.size := fun x hx => h.row.lt x hx
  have G3 : GW w2 w4 (fun x => v.ownBlock = some x) := (GW.non K).trans (GW.of K4 (fun x hx => hx)) (fun x _ h => h)
  have hnv : ∀ x, v.ownBlock = some x → ¬ q'.foot x := fun x hx h2 => by
    rcases F x h2 with h3 | h3
    · exact h.nv x hx h3
    · have := (hvn x hx).2; omega
  have A4 : RqAt w4 base q' := A.gw G3 (fun x hx e => hnv x e hx)
  have old : ∀ f ∈ fs, ∀ x, f.v.ownBlock = some x → x < wr.heap.size := fun f hf x hx => ((h.own f hf).lt x hx).2
  refine ⟨A4, hg.trans h.g, ?_, by rw [← t2]; exact h.clr, ?_, h.ft.trans F h.gw.size, by rw [List.map_append]; exact R4, fun x hx hq => ?_, fun f hf => ?_, fun f hf x hx hq => ?_⟩
  · rw [← h.all, t1]
    simp
  · refine (h.gw.trans G (fun x hx hq => ?_)).trans G3 (fun x hx e => ?_)
    · rcases h.ft x hq with h3 | h3
      · exact h3
      · omega
    · have := (hvn x e).1; omega
  · rcases B4 with e | e
    · exact hnv x (by rw [← e]; exact hx) hq
    · have h1 := e x hx
      have h2 := (A.lt x hq).2
      have := K.size
      omega
  · rcases List.mem_append.1 hf with h1 | h1
    · have O1 : Owns w2 base f.v f.b := G.row (h.own f h1) (fun x hx => h.out f h1 x hx)
      refine G3.row O1 (fun x hx hv => ?_)
      exact row_ne h.row (h.own f h1) x hx hv
    · obtain rfl : f = ⟨p, b⟩ := by simpa using h1
      refine G3.row O (fun x hx hv => ?_)
      exact h.nv x hv (hp x hx).1
  · rcases List.mem_append.1 hf with h1 | h1
    · rcases F x hq with h3 | h3
      · exact h.out f h1 x hx h3
      · have := old f h1 x hx; omega
    · obtain rfl : f = ⟨p, b⟩ := by simpa using h1
      exact (hp x hx).2 hq

theorem all_small {w : World} {base : Nat} {q : Rq} (h : RqAt w base q) : (allP q.abs).length ≤ 17 * 1024 := by
  have h1 := fr_count (cs := q.cs) (fun d hd => (h.dep d hd).2.1)
  have h2 := h.few.1
  have e : (allP q.abs).length = (q.cs.flatMap Cq.fs).length := by
    have := congrArg List.length (fr_all q.cs)
    rw [List.length_map] at this
    exact this.symm
  omega

set_option maxHeartbeats 2000000 in
theorem rqdrain_any (base : Nat) (q : Rq) (w : World) (hq : RqAt w base q) :
    Calls Try.prog 27 #[.pointer (some ⟨q.g, 0, none⟩)] w (DrainsR w base q) := by
  obtain ⟨i0, hi, hz0, hz1, hz2⟩ := info_parts infoSl
  have HI : Hid (Try.prog.info? 35 = some i0 ∧ i0.zero = some (.slice none 0 0) ∧ i0.size = 1 ∧ i0.bytes = 24) := ⟨hi, hz0, hz1, hz2⟩
  have HQ : Hid (RqAt w base q) := hq
  obtain ⟨M, hM⟩ : ∃ M, (allP q.abs).length = M := ⟨_, rfl⟩
  have HM : Hid ((allP q.abs).length = M ∧ M ≤ 17 * 1024) := ⟨hM, by rw [← hM]; exact all_small hq⟩
  clear hi hz0 hz1 hz2 hq hM
  go_enter Try.func27, Try.ntmps27
  go_wp2
  go_loopw [3] (fun v wr => ∃ fs qk, DrI w base q v fs qk wr) (fun v _ => M - slen v)
  case atStart => exact ⟨[], q, HQ.out, rfl, rfl, rfl, GW.refl _ _, Foots.refl _ _, ORow.nil _ _ _, (fun x hx => by cases hx), (fun f hf => by cases hf), (fun f hf => by cases hf)⟩
  case round =>
    obtain ⟨fs, qk, D⟩ := hrel
    have HD : Hid (DrI w base q u3 fs qk wr) := D
    have CT := rqtake_any base qk wr D.at'
    rw [D.g] at CT
    have hle : fs.length + (allP qk.abs).length = M := by
      have := congrArg List.length D.all
      rw [List.length_append, List.length_map, HM.out.1] at this
      exact this
    have HLE : Hid (fs.length + (allP qk.abs).length = M) := hle
    obtain ⟨vl, vc, hv⟩ := D.row.len
    rw [List.length_map] at hv
    subst hv
    clear D hle
    go_wp2_with fail
    refine CT.mono ?_
    rintro e w2 T
    clear CT
    rcases T with ⟨t0, rfl, K⟩ | ⟨n, p, b, q', t0, rfl, A, hg, G, F, O, hp⟩
    · have HR : Hid (DrainsR w base q (.returned (.slice vl fs.length vc)) w2) := by
        have D := HD.out
        obtain ⟨t1, t2⟩ := take_no qk.abs t0
        refine ⟨_, fs, qk, rfl, ?_, D.g, by rw [← D.clr, t2], D.at'.keptNone K, D.gw.trans (GW.non (S := q.foot) K) (fun x _ h => h), D.ft, D.row.keptNone K, fun f hf => owns_keptNone (D.own f hf) K⟩
        have := D.all
        rw [t1, List.append_nil] at this
        exact this
      clear HD HLE t0 K
      go_wp2
      go_ret
      exact HR.out
    · have HT : Hid (takeP qk.abs = some (n, b, q'.abs) ∧ RqAt w2 base q' ∧ q'.g = q.g ∧ GW wr w2 qk.foot ∧ Foots wr qk.foot q'.foot ∧ Owns w2 base p b ∧ ∀ x, p.ownBlock = some x → qk.foot x ∧ ¬ q'.foot x) := ⟨t0, A, hg.trans HD.out.g, G, F, O, hp⟩
      obtain ⟨ap, cp, hpv, -⟩ := O.shape
      subst hpv
      have hlen : fs.length < M := by
        obtain ⟨t1, _⟩ := take_yes _ _ _ _ t0
        have := HLE.out
        rw [t1, List.length_cons] at this
        omega
      have hM2 := HM.out.2
      clear t0 A hg G F O hp
      go_wp2_with (at_builtin; refine wpList_append_orow rfl (.tmp 16) (.tmp 18) 45 rfl 35 i0 _ 24 Try.underlying45 HI.out.1 HI.out.2.1 HI.out.2.2.1 HI.out.2.2.2 rfl w.heap.size _ (fs.map Fr.v) rfl ?q1 ⟨w2.heap.size, 0, none⟩ 1 (.slice ap b.length cp) rfl (cv_lit w2 _ _) rfl (by rw [List.length_map]; unfold maxLen; omega) (by rw [List.length_map]; omega) ?q2 ?q3)
      case q1 =>
        have D := HD.out
        refine (ORow.keptNone ?_ (World.grownBy_alloc w2 _ none))
        refine HT.out.2.2.2.1.orow D.row (fun x hx => D.nv x hx)
      case q2 =>
        have := HD.out.gw.size
        have := HT.out.2.2.2.1.size
        exact Nat.le_trans (by omega) (World.grownBy_alloc w2 (.cells #[.slice ap b.length cp] 35) none).size
      case q3 =>
        intro v4 w4 R4 K4 B4
        have D4 := HD.out.step HT.out.1 HT.out.2.1 (HT.out.2.2.1.trans HD.out.g.symm) HT.out.2.2.2.1 HT.out.2.2.2.2.1 HT.out.2.2.2.2.2.1 HT.out.2.2.2.2.2.2 (World.grownBy_alloc w2 (.cells #[.slice ap b.length cp] 35) none) R4 K4 (by simpa using B4)
        obtain ⟨al, cl, hv4⟩ := R4.len
        have hl4 : slen v4 = fs.length + 1 := by rw [hv4]; simp [slen]
        have HF : Hid (DrI w base q v4 (fs ++ [⟨.slice ap b.length cp, b⟩]) q' w4) := D4
        have HL4 : Hid (slen v4 = fs.length + 1) := hl4
        clear R4 K4 B4 D4 HT HD HLE hv4 hl4
        go_wp2
        go_roundw
        case rel => exact ⟨_, _, HF.out⟩
        case measure =>
          rw [HL4.out]
          simp only [slen]
          omega

end Go.Proofs.Ytlfjpbedjmnpaaa
