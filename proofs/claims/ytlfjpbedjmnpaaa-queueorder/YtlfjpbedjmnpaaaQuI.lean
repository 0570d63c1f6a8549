/-
  Package queue as landed: Drain.
-/
import Derived.Test.YtlfjpbedjmnpaaaQuG
namespace Go.Proofs.Ytlfjpbedjmnpaaa
open Go.RowKit
set_option maxRecDepth 100000

/-- Frames handed out in a row of their own. -/
def Drained (w w' : World) (base : Nat) (v : Value) (fs : List Fr) (F F' : Nat → Prop) : Prop :=
  w'.ownsRow w.heap.size 35 1 v fs.length (fs.map Fr.v) ∧ (∀ f ∈ fs, Owns w' base f.v f.b) ∧ (∀ x, (fs.flatMap gf1).count x ≤ 1) ∧ (∀ x ∈ fs.flatMap gf1, (F x ∨ w.heap.size ≤ x) ∧ ¬ F' x) ∧ ∀ x, v.ownBlock = some x → ¬ F' x

def Cq.clr (c : Cq) : Cq := ⟨c.dep, c.lost, .slice none 0 0, []⟩
def csDr (cs : List Cq) (k : Nat) : List Cq := (cs.take k).map Cq.clr ++ cs.drop k
def frTo (cs : List Cq) (k : Nat) : List Fr := (cs.take k).flatMap Cq.fs

theorem csDr_len (cs : List Cq) (k : Nat) : (csDr cs k).length = cs.length := by simp [csDr]; omega
theorem csDr_at (cs : List Cq) (k : Nat) (c : Cq) (h : cs[k]? = some c) : (csDr cs k)[k]? = some c := by
  obtain ⟨hlt, e⟩ := List.getElem?_eq_some_iff.1 h
  unfold csDr
  rw [List.getElem?_append_right (by simp; omega), List.getElem?_drop, ← h]
  congr 1
  simp
  omega
theorem csDr_set (cs : List Cq) (k : Nat) (c : Cq) (h : cs[k]? = some c) : (csDr cs k).set k c.clr = csDr cs (k + 1) := by
  obtain ⟨hlt, e⟩ := List.getElem?_eq_some_iff.1 h
  unfold csDr
  have e2 : k - ((cs.take k).map Cq.clr).length = 0 := by simp; omega
  rw [List.set_append_right (h := by simp; omega), List.take_succ_eq_append_getElem hlt, List.map_append, List.append_assoc, e, e2, List.drop_eq_getElem_cons hlt]
  rfl
theorem frTo_succ (cs : List Cq) (k : Nat) (c : Cq) (h : cs[k]? = some c) : frTo cs (k + 1) = frTo cs k ++ c.fs := by
  obtain ⟨hlt, e⟩ := List.getElem?_eq_some_iff.1 h
  unfold frTo
  rw [List.take_succ_eq_append_getElem hlt, List.flatMap_append, e]
  simp
theorem clr_abs (cs : List Cq) : (cs.map Cq.clr).map Cq.abs = (cs.map Cq.abs).map Qc.clear := by
  rw [List.map_map, List.map_map]
  rfl
theorem fr_all (cs : List Cq) : (cs.flatMap Cq.fs).map Fr.b = allP (cs.map Cq.abs) := by
  induction cs with
  | nil => rfl
  | cons x r ih =>
    simp only [allP, List.flatMap_cons, List.map_append, List.map_cons] at ih ⊢
    rw [ih, abs_fr]
theorem gf_all (cs : List Cq) : (cs.flatMap Cq.fs).flatMap gf1 = fblk cs := by
  induction cs with
  | nil => rfl
  | cons x r ih =>
    simp only [fblk, List.flatMap_cons, List.flatMap_append] at ih ⊢
    rw [ih]
    rfl
theorem blk_clr (cs : List Cq) : hblk (cs.map Cq.clr) = [] ∧ fblk (cs.map Cq.clr) = [] := by
  induction cs with
  | nil => exact ⟨rfl, rfl⟩
  | cons x r ih =>
    simp only [hblk, fblk, List.map_cons, List.flatMap_cons] at ih ⊢
    rw [ih.1, ih.2]
    exact ⟨rfl, rfl⟩
theorem fr_count {cs : List Cq} (h : ∀ c ∈ cs, c.fs.length ≤ 1024) : (cs.flatMap Cq.fs).length ≤ cs.length * 1024 := by
  induction cs with
  | nil => exact Nat.le_refl _
  | cons x r ih =>
    have h1 := h x (List.mem_cons_self ..)
    have h2 := ih (fun c hc => h c (List.mem_cons_of_mem _ hc))
    simp only [List.flatMap_cons, List.length_append, List.length_cons]
    omega

/-- What Drain leaves. -/
def DrainsL (w : World) (base : Nat) (q : Lq) (e : Ending) (w' : World) : Prop :=
  ∃ v, ∃ fs : List Fr, ∃ q' : Lq, e = .returned v ∧ fs.map Fr.b = allP q.abs ∧ q'.g = q.g ∧ q'.abs = q.abs.map Qc.clear ∧ LqAt w' base q' ∧ GW w w' q.foot ∧ Foots w q.foot q'.foot ∧ Drained w w' base v fs q.foot q'.foot

theorem ldrains_end {w w' : World} {base N : Nat} {q : Lq} {v : Value} (hq : LqAt w base q) (hN : q.cs.length = N) (L : LqAt w' base ⟨q.g, q.gc, csDr q.cs N⟩) (G : GW w w' (fun x => x = q.gc)) (O : w'.ownsRow w.heap.size 35 1 v (frTo q.cs N).length ((frTo q.cs N).map Fr.v)) : DrainsL w base q (.returned v) w' := by
  have e1 : csDr q.cs N = q.cs.map Cq.clr := by simp [csDr, ← hN]
  have e2 : frTo q.cs N = q.cs.flatMap Cq.fs := by simp [frTo, ← hN]
  rw [e1] at L
  rw [e2] at O
  have n1 := hq.hl.tys hq.cls (by decide) (by decide)
  have n2 := hq.hl.tys hq.blk (by decide) (by decide)
  refine ⟨v, q.cs.flatMap Cq.fs, ⟨q.g, q.gc, q.cs.map Cq.clr⟩, rfl, fr_all q.cs, rfl, clr_abs q.cs, L, G.mono (fun x _ h => .inr (.inl h)), fun x hx => ?_, O, fun f hf => ?_, fun x => by rw [gf_all]; exact hq.hl.nf x, fun x hx => ?_, fun x hx h => ?_⟩
  · rcases hx with h | h | h | h
    · exact .inl (.inl h)
    · exact .inl (.inr (.inl h))
    · rw [show hblk (Lq.mk q.g q.gc (q.cs.map Cq.clr)).cs = [] from (blk_clr q.cs).1] at h; cases h
    · rw [show fblk (Lq.mk q.g q.gc (q.cs.map Cq.clr)).cs = [] from (blk_clr q.cs).2] at h; cases h
  · obtain ⟨c, hc, hf⟩ := List.mem_flatMap.1 hf
    exact G.row (hq.hl.own c hc f hf) (fun x hx e => n1.2 (e ▸ mem_fblk hc hf hx))
  · rw [gf_all] at hx
    refine ⟨.inl (.inr (.inr (.inr hx))), fun h => ?_⟩
    rcases h with h | h | h | h
    · exact n2.2 (by have h : x = q.g := h; rw [← h]; exact hx)
    · exact n1.2 (by have h : x = q.gc := h; rw [← h]; exact hx)
    · rw [show hblk (Lq.mk q.g q.gc (q.cs.map Cq.clr)).cs = [] from (blk_clr q.cs).1] at h; cases h
    · rw [show fblk (Lq.mk q.g q.gc (q.cs.map Cq.clr)).cs = [] from (blk_clr q.cs).2] at h; cases h
  · have h9 := (O.lt x hx).1
    rcases h with h | h | h | h
    · have h : x = q.g := h
      have := hq.blk.lt
      omega
    · have h : x = q.gc := h
      have := hq.cls.lt
      omega
    · rw [show hblk (Lq.mk q.g q.gc (q.cs.map Cq.clr)).cs = [] from (blk_clr q.cs).1] at h; cases h
    · rw [show fblk (Lq.mk q.g q.gc (q.cs.map Cq.clr)).cs = [] from (blk_clr q.cs).2] at h; cases h

set_option maxHeartbeats 2000000 in
theorem lqdrain_any (base : Nat) (q : Lq) (w : World) (hq : LqAt w base q) :
    Calls Try.prog 17 #[.pointer (some ⟨q.g, 0, none⟩)] w (DrainsL w base q) := by
  obtain ⟨i0, hi, hz0, hz1, hz2⟩ := info_parts infoSl
  have c0 := hq.cell0
  unfold Lq.sv at c0
  have HQ : Hid (LqAt w base q) := hq
  clear hq
  obtain ⟨N, hN⟩ : ∃ N, q.cs.length = N := ⟨_, rfl⟩
  have HN : Hid (q.cs.length = N) := hN
  have hN17 : N ≤ 17 := by rw [← hN]; exact HQ.out.few
  rw [hN] at c0
  clear hN
  have HI : Hid (Try.prog.info? 35 = some i0 ∧ i0.zero = some (.slice none 0 0) ∧ i0.size = 1 ∧ i0.bytes = 24) := ⟨hi, hz0, hz1, hz2⟩
  clear hi hz0 hz1 hz2
  go_enter Try.func17, Try.ntmps17
  go_wp2
  go_loopw [3, 10] (fun v i wr => ∃ k : Nat, k ≤ N ∧ i = .int .i64 k ∧ LqAt wr base ⟨q.g, q.gc, csDr q.cs k⟩ ∧ GW w wr (fun x => x = q.gc) ∧ wr.ownsRow w.heap.size 35 1 v (frTo q.cs k).length ((frTo q.cs k).map Fr.v)) (fun _ i _ => N - (intOf i).toNat)
  case atStart => exact ⟨0, Nat.zero_le _, rfl, by simpa [csDr] using HQ.out, GW.refl _ _, by simpa [frTo] using World.ownsRow_nil _ _ _ _⟩
  case round =>
    clear c0
    obtain ⟨k, hk, rfl, L, G, O⟩ := hrel
    by_cases hlt : k < N
    · have hkc : q.cs[k]? = some (q.cs[k]'(by have := HN.out; omega)) := List.getElem?_eq_getElem _
      generalize q.cs[k]'(by have := HN.out; omega) = c at *
      have hkd := csDr_at q.cs k c hkc
      have c0 := L.cell0
      unfold Lq.sv at c0
      simp only [csDr_len, HN.out] at c0
      have hli : (k : Int) < (N : Int) := by omega
      have CD := ldrain_any base k ⟨q.g, q.gc, csDr q.cs k⟩ c wr L hkd
      obtain ⟨ao, cap, hh, C, hcl, hcm, hc0, had, hob⟩ := (L.hl.row c (List.mem_of_getElem? hkd)).cv
      have hrl : c.row.length = c.fs.length := by unfold Cq.row; rw [List.length_map]
      rw [hrl] at hh
      have n1 := (L.hl.tys L.cls (by decide) (by decide)).1
      have hfl : c.fs.length ≤ 1024 := (HQ.out.dep c (List.mem_of_getElem? hkc)).2.1
      have hto : (frTo q.cs k).length ≤ 17 * 1024 := by
        have h1 := fr_count (cs := q.cs.take k) (fun d hd => (HQ.out.dep d (List.mem_of_mem_take hd)).2.1)
        have h2 : (q.cs.take k).length ≤ 17 := by simp; omega
        unfold frTo
        omega
      have HX : Hid (∀ w2, DrainL wr base ⟨q.g, q.gc, csDr q.cs k⟩ k c w2 → LqAt w2 base ⟨q.g, q.gc, csDr q.cs (k + 1)⟩ ∧ wr.grownBy w2 (some q.gc) ∧ CV w2 ao c.row ∧ w2.ownsRow w.heap.size 35 1 u3 (frTo q.cs k).length ((frTo q.cs k).map Fr.v)) := fun w2 ⟨h1, h2, _⟩ => by
        refine ⟨?_, h2, C.kept h2 (fun ad ha _ e => ?_), O.kept h2 (.inr fun e => ?_)⟩
        · have := csDr_set q.cs k c hkc
          unfold Lq.with at h1
          unfold Cq.clr at this
          rw [← this]
          exact h1
        · exact n1 (mem_hblk (List.mem_of_getElem? hkd) (by rw [hob, ha]; exact e))
        · have h9 := (O.lt q.gc e).1
          have := HQ.out.cls.lt
          exact absurd h9 (by omega)
      have HG : Hid (GW w wr (fun x => x = q.gc) ∧ (ao = none → cap = 0) ∧ c.row.length = c.fs.length ∧ c.fs.length ≤ 1024 ∧ (frTo q.cs k).length ≤ 17 * 1024 ∧ q.cs[k]? = some c) := ⟨G, hc0, hrl, hfl, hto, hkc⟩
      rw [hh] at CD
      clear L G O hkc hkd C hh hob had hc0 n1 hrl hfl hto hcl hcm
      go_wp2_with fail
      refine CD.mono ?_
      rintro e w2 ⟨rfl, D⟩
      have HX2 : Hid _ := HX.out w2 D
      clear CD D HX
      obtain ⟨vl, vc, hvs⟩ : ∃ (a : Option Addr) (c : Nat), u3 = .slice a (frTo q.cs k).length c := by
        obtain ⟨a, c, hv, -⟩ := CV.ofRow HX2.out.2.2.2
        exact ⟨a, c, hv⟩
      subst hvs
      go_wp2_with (at_builtin; refine wpList_append_cv rfl (.tmp 13) (.tmp 20) 45 rfl 35 i0 _ 1 24 Try.underlying45 HI.out.1 HI.out.2.1 HI.out.2.2.1 HI.out.2.2.2 rfl (by decide) w.heap.size _ (frTo q.cs k).length ((frTo q.cs k).map Fr.v) rfl HX2.out.2.2.2 ao c.fs.length cap c.row rfl (by rw [HG.out.2.2.1]; simp) HG.out.2.1 HX2.out.2.2.1 ?q1 ?q2 ?q3 ?q4 ?q5)
      case q1 =>
        intro u hu
        unfold Cq.row at hu
        obtain ⟨f, hf, rfl⟩ := List.mem_map.1 hu
        obtain ⟨a9, l9, h9, -⟩ := (HQ.out.hl.own c (List.mem_of_getElem? HG.out.2.2.2.2.2) f hf).shape
        rw [h9]
        rfl
      case q2 => have := HG.out.2.2.2.1; have := HG.out.2.2.2.2.1; unfold maxLen; omega
      case q3 => have := HG.out.2.2.2.1; have := HG.out.2.2.2.2.1; omega
      case q4 => have := HG.out.1.size; have := HX2.out.2.1.size; omega
      case q5 =>
        intro v3 w3 O3 K3
        have e3 : (frTo q.cs k).length + c.fs.length = (frTo q.cs (k + 1)).length := by rw [frTo_succ q.cs k c HG.out.2.2.2.2.2, List.length_append]
        have e4 : (frTo q.cs k).map Fr.v ++ c.row = (frTo q.cs (k + 1)).map Fr.v := by rw [frTo_succ q.cs k c HG.out.2.2.2.2.2, List.map_append]; rfl
        rw [e3, e4] at O3
        have hnew : ∀ x, (Value.slice vl (frTo q.cs k).length vc).ownBlock = some x → w.heap.size ≤ x := fun x hx => (HX2.out.2.2.2.lt x hx).1
        have HF : Hid (LqAt w3 base ⟨q.g, q.gc, csDr q.cs (k + 1)⟩ ∧ GW w w3 (fun x => x = q.gc) ∧ w3.ownsRow w.heap.size 35 1 v3 (frTo q.cs (k + 1)).length ((frTo q.cs (k + 1)).map Fr.v)) := by
          have G2 : GW w w2 (fun x => x = q.gc) := HG.out.1.trans (GW.of (S := fun x => x = q.gc) HX2.out.2.1 (fun x hx => (Option.some.inj hx).symm)) (fun x _ h => h)
          have GK : GW w2 w3 (fun x => w.heap.size ≤ x ∧ (Value.slice vl (frTo q.cs k).length vc).ownBlock = some x) := GW.of K3 (fun x hx => ⟨hnew x hx, hx⟩)
          refine ⟨HX2.out.1.gw GK (fun x hx h => ?_), G2.trans GK (fun x hx h => by omega), O3⟩
          have hlt := HQ.out.lt
          have hF : q.foot x := by
            rcases hx with h1 | h1 | h1 | h1
            · exact .inl h1
            · exact .inr (.inl h1)
            · have h1 : x ∈ hblk (csDr q.cs (k + 1)) := h1
              unfold hblk csDr at h1
              rw [List.flatMap_append] at h1
              rcases List.mem_append.1 h1 with h2 | h2
              · have := (blk_clr (q.cs.take (k + 1))).1
                unfold hblk at this
                rw [this] at h2
                cases h2
              · obtain ⟨d, hd, hx⟩ := List.mem_flatMap.1 h2
                exact .inr (.inr (.inl (List.mem_flatMap.2 ⟨d, List.mem_of_mem_drop hd, hx⟩)))
            · have h1 : x ∈ fblk (csDr q.cs (k + 1)) := h1
              unfold fblk csDr at h1
              rw [List.flatMap_append] at h1
              rcases List.mem_append.1 h1 with h2 | h2
              · have := (blk_clr (q.cs.take (k + 1))).2
                unfold fblk at this
                rw [this] at h2
                cases h2
              · obtain ⟨d, hd, hx⟩ := List.mem_flatMap.1 h2
                exact .inr (.inr (.inr (List.mem_flatMap.2 ⟨d, List.mem_of_mem_drop hd, hx⟩)))
          have := (hlt x hF).2
          omega
        clear O3 K3 HX2 HG hnew e3 e4
        go_wp2
        go_roundw
        case rel => exact ⟨k + 1, by omega, by go_num, HF.out.1, HF.out.2.1, HF.out.2.2⟩
        case measure => simp [intOf]; omega
    · obtain rfl : k = N := by omega
      have HR : Hid (DrainsL w base q (.returned u3) wr) := ldrains_end HQ.out HN.out L G O
      clear L G O
      go_wp2
      go_ret
      exact HR.out

end Go.Proofs.Ytlfjpbedjmnpaaa
