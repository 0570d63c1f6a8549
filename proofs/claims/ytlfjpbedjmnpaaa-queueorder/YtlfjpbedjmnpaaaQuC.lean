/-
  Package queue as landed: the counter, a class.
-/
import Derived.Test.YtlfjpbedjmnpaaaQuQ
import Derived.Test.YtlfjpbedjmnpaaaSum
import Derived.Test.YtlfjpbedjmnpaaaJoinL
import Derived.Deep.RegionHeld3
import Derived.Deep.DeepCutAuto
namespace Go.Proofs.Ytlfjpbedjmnpaaa
open Go.RowKit
set_option maxRecDepth 100000

theorem sum_two (n : Nat) (h : n ≤ 4294967295) : sumS [UInt32.ofNat n, 1] = min (n + 1) 4294967295 := by
  have : (UInt32.ofNat n).toNat = n := by simp; omega
  simp [sumS, tot, this]

set_option maxHeartbeats 1000000 in
theorem ldrop_any (g o n : Nat) (w : World) (hc : w.cell? ⟨g, o, none⟩ = some (.int .u32 (n : Int))) (hf : w.frozen? ⟨g, o, none⟩ = false) (hn : n ≤ 4294967295) :
    Calls Try.prog 41 #[.pointer (some ⟨g, o, none⟩)] w fun e w' => e = .returned (.tuple #[]) ∧ ∃ w1, w.grownBy w1 none ∧ w' = w1.setCell ⟨g, o, none⟩ (.int .u32 ((min (n + 1) 4294967295 : Nat) : Int)) := by
  have HN : Hid (n ≤ 4294967295) := hn
  have C := cv_lit w 60 ([UInt32.ofNat n, 1].map wv)
  have e0 : (UInt32.ofNat n).toNat = n := by simp; omega
  have e1 : [UInt32.ofNat n, 1].map wv = [.int .u32 (n : Int), .int .u32 1] := by simp [wv, e0]
  have CS := fun W hW => sum_len (some ⟨w.heap.size, 0, none⟩) 2 2 [UInt32.ofNat n, 1] rfl W hW (by simp)
  rw [sum_two n hn, e1] at CS
  rw [e1] at C
  have G := World.grownBy_alloc w (.cells #[.int .u32 (n : Int), .int .u32 1] 60) none
  have HG : Hid (w.grownBy (w.alloc (.cells #[.int .u32 (n : Int), .int .u32 1] 60)) none) := G
  have HCS : Hid (Calls Try.prog 43 #[.slice (some ⟨w.heap.size, 0, none⟩) 2 2] (w.alloc (.cells #[.int .u32 (n : Int), .int .u32 1] 60)) fun e w' => e = .returned (.int .u32 ((min (n + 1) 4294967295 : Nat) : Int)) ∧ (w.alloc (.cells #[.int .u32 (n : Int), .int .u32 1] 60)) = w') := CS _ C
  obtain ⟨m, hm⟩ : ∃ m : Nat, min (n + 1) 4294967295 = m := ⟨_, rfl⟩
  rw [hm] at HCS ⊢
  clear CS C e0 e1 hm hn
  have hc' := G.cell hc (by simp)
  have hf' : (w.alloc (.cells #[.int .u32 (n : Int), .int .u32 1] 60)).frozen? ⟨g, o, none⟩ = false := by
    rw [World.frozen?_of_block (w := w)]
    · exact hf
    · exact G.block g (World.block_lt_of_cell? w _ hc) (by simp)
  clear G
  go_enter Try.func41, Try.ntmps41
  go_wp2_with fail
  refine HCS.out.mono ?_
  rintro e w2 ⟨rfl, rfl⟩
  clear HCS
  generalize w.alloc (.cells #[.int .u32 (n : Int), .int .u32 1] 60) = w1 at *
  go_wp2
  go_end0
  exact ⟨rfl, w1, HG.out, rfl⟩

/-- A class that is put to. -/
def PutQ (w : World) (base : Nat) (q : Lq) (k : Nat) (c : Cq) (b : List UInt8) (w' : World) : Prop :=
  ∃ c', c'.abs = c.abs.put b ∧ LqAt w' base (q.with k c') ∧ GW w w' q.foot ∧ Foots w q.foot (q.with k c').foot

theorem lq_foot_held {q : Lq} {k : Nat} {c : Cq} (hk : q.cs[k]? = some c) {x : Nat} (hx : c.h.ownBlock = some x) : q.foot x := .inr (.inr (.inl (mem_hblk (List.mem_of_getElem? hk) hx)))

/-- What is left behind one frame more. -/
theorem lput_end {w w3 w4 : World} {base k cap l4 cj : Nat} {q : Lq} {c : Cq} {ao a4 aj : Option Addr} {b : List UInt8} (hq : LqAt w base q) (hk : q.cs[k]? = some c) (hd : c.dep ≤ 1024) (hr : c.fs.length < c.dep) (hh : c.h = .slice ao c.fs.length cap) (G : w.grownBy w3 none) (O : Owns w3 w.heap.size (.slice aj b.length cj) b)
    (R4 : ORow w4 base 35 (.slice a4 (c.fs.length + 1) l4) (c.row ++ [.slice aj b.length cj])) (G4 : w3.grownBy w4 (Value.slice ao c.fs.length cap).ownBlock) (B4 : (Value.slice a4 (c.fs.length + 1) l4).ownBlock = (Value.slice ao c.fs.length cap).ownBlock ∨ ∀ y, (Value.slice a4 (c.fs.length + 1) l4).ownBlock = some y → w3.heap.size ≤ y) :
    PutQ w base q k c b (w4.setCell ⟨q.gc, k * 3 + 2, none⟩ (.slice a4 (c.fs.length + 1) l4)) ∧ QBk w4 q.gc 64 (qcells q.cs).toArray := by
  have hcm := List.mem_of_getElem? hk
  have HP := hq.hl.put (w1 := w3) hk hq.lo.2.2 G O R4 (by rw [hh]; exact G4) (by rw [hh]; exact B4)
  have GG : GW w w4 (fun x => c.h.ownBlock = some x) := (GW.non G).trans (GW.of (S := fun x => c.h.ownBlock = some x) G4 (fun x hx => by rw [hh]; exact hx)) (fun x _ h => h)
  have AT := hq.held hk GG HP (by simp; omega)
  have FT : Foots w q.foot (q.with k ⟨c.dep, c.lost, .slice a4 (c.fs.length + 1) l4, c.fs ++ [⟨.slice aj b.length cj, b⟩]⟩).foot := lq_foots hk (fun y hy => by
    rcases B4 with h | h
    · exact .inl (by rw [hh, ← h]; exact hy)
    · have := h y hy; have := G.size; exact .inr (by omega)) (fun f hf => by
    rcases List.mem_append.1 hf with h | h
    · exact .inl h
    · obtain rfl : f = ⟨.slice aj b.length cj, b⟩ := by simpa using h
      exact .inr fun y hy => (O.lt y hy).1)
  have GF : GW w (w4.setCell ⟨q.gc, k * 3 + 2, none⟩ (.slice a4 (c.fs.length + 1) l4)) q.foot := (GG.mono (fun x _ h => lq_foot_held hk h)).set _ _ (.inl (.inr (.inl rfl)))
  have hput : c.abs.put b = ⟨c.dep, c.lost, c.fs.map Fr.b ++ [b]⟩ := by
    unfold Qc.put
    rw [if_pos (by simp [Qc.room, Cq.abs]; omega)]
    rfl
  exact ⟨⟨_, by rw [hput]; simp [Cq.abs], AT, GF, FT⟩, GG.qbk hq.cls (fun e => (hq.hl.tys hq.cls (by decide) (by decide)).1 (mem_hblk hcm e))⟩

theorem lbuild1 (a : Option Addr) (n c : Nat) (W : World) : (Instr.buildSlice 45 1 #[(0, .slice a n c)]).run Try.prog W = .ok (.slice (some ⟨W.heap.size, 0, none⟩) 1 1) (W.alloc (.cells #[.slice a n c] 35)) := by kernel_rfl

theorem infoSl : (Try.prog.info? 35).map (fun i => (i.zero, i.size, i.bytes)) = some (some (.slice none 0 0), 1, 24) := by kernel_rfl

set_option maxHeartbeats 4000000 in
theorem lput_any (base k : Nat) (q : Lq) (c : Cq) (a : Option Addr) (ca : Nat) (b : List UInt8) (w : World) (hq : LqAt w base q) (hk : q.cs[k]? = some c) (ha : Cells w a b) (ha0 : a = none → ca = 0) (hb : b.length ≤ 65535) :
    Calls Try.prog 35 #[.pointer (some ⟨q.gc, k * 3, none⟩), .slice a b.length ca] w fun e w' => e = .returned (.bool c.abs.room) ∧ PutQ w base q k c b w' := by
  have hcm := List.mem_of_getElem? hk
  have c0 := hq.lostc hk
  have c1 := hq.depc hk
  have c2 := hq.heldc hk
  have f0 := hq.free (k * 3)
  have f2 := hq.free (k * 3 + 2)
  have hdep := hq.dep c hcm
  obtain ⟨ao, cap, hh, -⟩ := (hq.hl.row c hcm).cv
  have hrl : c.row.length = c.fs.length := by unfold Cq.row; rw [List.length_map]
  rw [hrl] at hh
  have HQ : Hid (LqAt w base q ∧ q.cs[k]? = some c) := ⟨hq, hk⟩
  have HA : Hid (Cells w a b ∧ (a = none → ca = 0)) := ⟨ha, ha0⟩
  have hroom : c.abs.room = decide (c.fs.length < c.dep) := by simp [Qc.room, Cq.abs]
  by_cases hr : c.fs.length < c.dep
  · have er : c.abs.room = true := by rw [hroom]; exact decide_eq_true hr
    have hg : decide (c.dep ≤ c.fs.length) = false := decide_eq_false (by omega)
    have hput : c.abs.put b = ⟨c.dep, c.lost, c.fs.map Fr.b ++ [b]⟩ := by
      unfold Qc.put
      rw [if_pos er]
      rfl
    have HC : Hid (c.dep ≤ 1024 ∧ c.fs.length < c.dep ∧ c.h = .slice ao c.fs.length cap ∧ c.abs.put b = ⟨c.dep, c.lost, c.fs.map Fr.b ++ [b]⟩) := ⟨hdep.1, hr, hh, hput⟩
    rw [er]
    clear hroom hr er hput hdep hq hk ha ha0
    rw [hh] at c2
    clear hh
    obtain ⟨i0, hi, hz0, hz1, hz2⟩ := info_parts infoSl
    go_enter Try.func35, Try.ntmps35
    go_upto_region 4 with (go_quiet (fail))
    all_goals
      refine wp_region_held_drew (S := fun _ => True) (by kernel_rfl) (trivial) (fun hHeld => ?_)
      refine wpAnyH_take (i := 0) (v := .pointer (some ⟨q.gc, k * 3, none⟩)) rfl (by kernel_rfl) (by kernel_rfl) (by kernel_rfl) (fun _ _ _ h => h) (Or.inl ⟨by rfl, fun W hW => ?_⟩) hHeld ?_
      · clear hW
        go_simp
      try simp only [Act.put, List.getElem_toArray, List.getElem_cons_zero, List.setIfInBounds_toArray, List.set_cons_zero, List.set_cons_succ]
      refine wpAnyH_take (i := 1) (v := .pointer (some ⟨q.gc, k * 3, none⟩)) rfl (by kernel_rfl) (by kernel_rfl) (by kernel_rfl) (fun _ _ _ h => h) (Or.inl ⟨by rfl, fun W hW => ?_⟩) hHeld ?_
      · clear hW
        go_simp
      try simp only [Act.put, List.getElem_toArray, List.getElem_cons_zero, List.getElem_cons_succ, List.setIfInBounds_toArray, List.set_cons_zero, List.set_cons_succ]
      refine wpAnyH_take (i := 2) (v := .pointer (some ⟨q.gc, k * 3, none⟩)) rfl (by kernel_rfl) (by kernel_rfl) (by kernel_rfl) (fun _ _ _ h => h) (Or.inl ⟨by rfl, fun W hW => ?_⟩) hHeld ?_
      · clear hW
        go_simp
      try simp only [Act.put, List.getElem_toArray, List.getElem_cons_zero, List.getElem_cons_succ, List.setIfInBounds_toArray, List.set_cons_zero, List.set_cons_succ]
      refine wpAnyH_take (i := 3) (v := .pointer (some ⟨q.gc, k * 3 + 2, none⟩)) rfl (by kernel_rfl) (by kernel_rfl) (by kernel_rfl) (fun _ _ _ h => h) (Or.inl ⟨by rfl, fun W hW => ?_⟩) hHeld ?_
      · clear hW
        go_simp
      try simp only [Act.put, List.getElem_toArray, List.getElem_cons_zero, List.getElem_cons_succ, List.setIfInBounds_toArray, List.set_cons_zero, List.set_cons_succ]
      refine wpAnyH_take (i := 5) (v := .slice a b.length ca) rfl (by kernel_rfl) (by kernel_rfl) (by kernel_rfl) (fun _ _ _ h => h) (Or.inl ⟨by rfl, fun W hW => ?_⟩) hHeld ?_
      · clear hW
        go_simp
      try simp only [Act.put, List.getElem_toArray, List.getElem_cons_zero, List.getElem_cons_succ, List.setIfInBounds_toArray, List.set_cons_zero, List.set_cons_succ]
      have G : w.grownBy (w.drewN nq).drew none := ⟨rfl, rfl, rfl, Nat.le_refl _, fun _ _ _ => rfl⟩
      have c2w : (w.drewN nq).drew.cell? ⟨q.gc, k * 3 + 2, none⟩ = some (.slice ao c.fs.length cap) := c2
      generalize (w.drewN nq).drew = wc at *
      clear c0 c1 c2 f0 f2
      refine wpAnyH_ready (rs := [4, 6]) (by kernel_rfl) (by simp) (AllReadyH.cons rfl (fun K hK => ?_) (AllReadyH.cons rfl (fun K hK => ?_) AllReadyH.nil))
      · go_simp
        refine hK.out _ _ trivial (fun hHeld => ?_)
        clear hK K hHeld
        try simp only [Act.put, List.getElem_toArray, List.getElem_cons_zero, List.getElem_cons_succ, List.setIfInBounds_toArray, List.set_cons_zero, List.set_cons_succ]
        refine wpAnyH_ready (rs := [6]) (by kernel_rfl) (by simp) (AllReadyH.cons rfl (fun K hK => ?_) AllReadyH.nil)
        refine step_litq (by rfl) 45 1 _ (by rfl) _ (by kernel_rfl) [.slice a b.length ca] 35 (lbuild1 a b.length ca) ?_
        intro ad wn C1 Kn
        refine hK.out _ _ trivial (fun hHeld => ?_)
        clear hK K hHeld
        replace G := grown_trans G Kn
        replace c2w := Kn.cell c2w (by simp)
        clear Kn
        try simp only [Act.put, List.getElem_toArray, List.getElem_cons_zero, List.getElem_cons_succ, List.setIfInBounds_toArray, List.set_cons_zero, List.set_cons_succ]
        refine wpAnyH_ready (rs := [7]) (by kernel_rfl) (by simp) (AllReadyH.cons rfl (fun K hK => ?_) AllReadyH.nil)
        have JN := wjoin_any (some ad) 1 [⟨a, ca, b⟩] _ C1 (by simpa using ⟨HA.out.1.keptNone G, HA.out.2⟩) (by simp) (by simp [joinS]; omega)
        have ej : joinS [⟨a, ca, b⟩] = b := by simp [joinS]
        rw [ej] at JN
        go_simp
        refine JN.mono ?_
        rintro e wm ⟨v, rfl, O2, Km⟩
        obtain ⟨aj, cj, rfl, -⟩ := O2.shape
        go_wp2_with fail
        refine hK.out _ _ trivial (fun hHeld => ?_)
        clear hK K JN ej hHeld
        have O := owns_mono O2 G.size
        replace G := grown_trans G Km
        replace c2w := Km.cell c2w (by simp)
        clear O2 Km C1
        try simp only [Act.put, List.getElem_toArray, List.getElem_cons_zero, List.getElem_cons_succ, List.setIfInBounds_toArray, List.set_cons_zero, List.set_cons_succ]
        refine wpAnyH_ready (rs := [8]) (by kernel_rfl) (by simp) (AllReadyH.cons rfl (fun K hK => ?_) AllReadyH.nil)
        refine step_litq (by rfl) 45 1 _ (by rfl) _ (by kernel_rfl) [.slice aj b.length cj] 35 (lbuild1 aj b.length cj) ?_
        intro ad3 wo C3 Ko
        refine hK.out _ _ trivial (fun hHeld => ?_)
        clear hK K hHeld
        replace G := grown_trans G Ko
        replace c2w := Ko.cell c2w (by simp)
        replace O := owns_keptNone O Ko
        clear Ko
        try simp only [Act.put, List.getElem_toArray, List.getElem_cons_zero, List.getElem_cons_succ, List.setIfInBounds_toArray, List.set_cons_zero, List.set_cons_succ]
        generalize wo = w3 at *
        have R3 : ORow w3 base 35 (.slice ao c.fs.length cap) c.row := by
          have := (HQ.out.1.hl.row c hcm).keptNone G
          rw [HC.out.2.2.1] at this
          exact this
        refine wpAnyH_ready (rs := [9]) (by kernel_rfl) (by simp) (AllReadyH.cons rfl (fun K hK => ?_) AllReadyH.nil)
        refine step_append_orow (by rfl) (.tmp 23) (.tmp 27) 45 (by rfl) 35 i0 _ 24 Try.underlying45 hi hz0 hz1 hz2 rfl base _ c.row (by rfl) R3 ad3 1 (.slice aj b.length cj) (by rfl) C3 rfl (by have := HC.out.1; have := HC.out.2.1; rw [hrl]; unfold maxLen; omega) (by have := HC.out.1; have := HC.out.2.1; rw [hrl]; omega) (Nat.le_trans HQ.out.1.lo.2.2 G.size) ?_
        intro v4 w4 R4 G4 B4
        obtain ⟨a4, l4, hv4⟩ := R4.len
        have hlr : (c.row ++ [Value.slice aj b.length cj]).length = c.fs.length + 1 := by simp [hrl]
        rw [hlr] at hv4
        subst hv4
        obtain ⟨HR0, QB4⟩ := lput_end HQ.out.1 HQ.out.2 HC.out.1 HC.out.2.1 HC.out.2.2.1 G O R4 G4 B4
        have HR : Hid (PutQ w base q k c b (w4.setCell ⟨q.gc, k * 3 + 2, none⟩ (.slice a4 (c.fs.length + 1) l4))) := HR0
        have c2' : w4.cell? ⟨q.gc, k * 3 + 2, none⟩ = some (.slice ao c.fs.length cap) := by
          have := HQ.out.1.heldc HQ.out.2
          rw [HQ.out.1.cls.cell, ← QB4.cell, HC.out.2.2.1] at this
          exact this
        have f2' := QB4.free (k * 3 + 2)
        clear HR0 QB4 R4 G4 B4 R3 O G C3 c2w
        refine hK.out _ _ trivial (fun hHeld => ?_)
        clear hK K hHeld
        try simp only [Act.put, List.getElem_toArray, List.getElem_cons_zero, List.getElem_cons_succ, List.setIfInBounds_toArray, List.set_cons_zero, List.set_cons_succ]
        refine wpAnyH_take (i := 10) (v := .pointer (some ⟨q.gc, k * 3, none⟩)) rfl (by kernel_rfl) (by kernel_rfl) (by kernel_rfl) (fun _ _ _ h => h) (Or.inl ⟨by rfl, fun W hW => ?_⟩) hHeld ?_
        · clear hW
          go_simp
        try simp only [Act.put, List.getElem_toArray, List.getElem_cons_zero, List.getElem_cons_succ, List.setIfInBounds_toArray, List.set_cons_zero, List.set_cons_succ]
        refine wpAnyH_take (i := 11) (v := .pointer (some ⟨q.gc, k * 3 + 2, none⟩)) rfl (by kernel_rfl) (by kernel_rfl) (by kernel_rfl) (fun _ _ _ h => h) (Or.inl ⟨by rfl, fun W hW => ?_⟩) hHeld ?_
        · clear hW
          go_simp
        try simp only [Act.put, List.getElem_toArray, List.getElem_cons_zero, List.getElem_cons_succ, List.setIfInBounds_toArray, List.set_cons_zero, List.set_cons_succ]
        refine wpAnyH_ready (rs := [12]) (by kernel_rfl) (by simp) (AllReadyH.cons rfl (fun K hK => ?_) AllReadyH.nil)
        go_simp
        refine hK.out _ _ trivial (fun hHeld => ?_)
        clear hK K hHeld
        try simp only [Act.put, List.getElem_toArray, List.getElem_cons_zero, List.getElem_cons_succ, List.setIfInBounds_toArray, List.set_cons_zero, List.set_cons_succ]
        refine wpAnyH_done (by kernel_rfl) ?_ _
        go_wp2
        go_ret
        exact ⟨rfl, HR.out⟩
      · refine step_litq (by rfl) 45 1 _ (by rfl) _ (by kernel_rfl) [.slice a b.length ca] 35 (lbuild1 a b.length ca) ?_
        intro ad wn C1 Kn
        refine hK.out _ _ trivial (fun hHeld => ?_)
        clear hK K hHeld
        replace G := grown_trans G Kn
        replace c2w := Kn.cell c2w (by simp)
        clear Kn
        try simp only [Act.put, List.getElem_toArray, List.getElem_cons_zero, List.getElem_cons_succ, List.setIfInBounds_toArray, List.set_cons_zero, List.set_cons_succ]
        refine wpAnyH_ready (rs := [4, 7]) (by kernel_rfl) (by simp) (AllReadyH.cons rfl (fun K hK => ?_) (AllReadyH.cons rfl (fun K hK => ?_) AllReadyH.nil))
        · go_simp
          refine hK.out _ _ trivial (fun hHeld => ?_)
          clear hK K hHeld
          try simp only [Act.put, List.getElem_toArray, List.getElem_cons_zero, List.getElem_cons_succ, List.setIfInBounds_toArray, List.set_cons_zero, List.set_cons_succ]
          refine wpAnyH_ready (rs := [7]) (by kernel_rfl) (by simp) (AllReadyH.cons rfl (fun K hK => ?_) AllReadyH.nil)
          have JN := wjoin_any (some ad) 1 [⟨a, ca, b⟩] _ C1 (by simpa using ⟨HA.out.1.keptNone G, HA.out.2⟩) (by simp) (by simp [joinS]; omega)
          have ej : joinS [⟨a, ca, b⟩] = b := by simp [joinS]
          rw [ej] at JN
          go_simp
          refine JN.mono ?_
          rintro e wm ⟨v, rfl, O2, Km⟩
          obtain ⟨aj, cj, rfl, -⟩ := O2.shape
          go_wp2_with fail
          refine hK.out _ _ trivial (fun hHeld => ?_)
          clear hK K JN ej hHeld
          have O := owns_mono O2 G.size
          replace G := grown_trans G Km
          replace c2w := Km.cell c2w (by simp)
          clear O2 Km C1
          try simp only [Act.put, List.getElem_toArray, List.getElem_cons_zero, List.getElem_cons_succ, List.setIfInBounds_toArray, List.set_cons_zero, List.set_cons_succ]
          refine wpAnyH_ready (rs := [8]) (by kernel_rfl) (by simp) (AllReadyH.cons rfl (fun K hK => ?_) AllReadyH.nil)
          refine step_litq (by rfl) 45 1 _ (by rfl) _ (by kernel_rfl) [.slice aj b.length cj] 35 (lbuild1 aj b.length cj) ?_
          intro ad3 wo C3 Ko
          refine hK.out _ _ trivial (fun hHeld => ?_)
          clear hK K hHeld
          replace G := grown_trans G Ko
          replace c2w := Ko.cell c2w (by simp)
          replace O := owns_keptNone O Ko
          clear Ko
          try simp only [Act.put, List.getElem_toArray, List.getElem_cons_zero, List.getElem_cons_succ, List.setIfInBounds_toArray, List.set_cons_zero, List.set_cons_succ]
          generalize wo = w3 at *
          have R3 : ORow w3 base 35 (.slice ao c.fs.length cap) c.row := by
            have := (HQ.out.1.hl.row c hcm).keptNone G
            rw [HC.out.2.2.1] at this
            exact this
          refine wpAnyH_ready (rs := [9]) (by kernel_rfl) (by simp) (AllReadyH.cons rfl (fun K hK => ?_) AllReadyH.nil)
          refine step_append_orow (by rfl) (.tmp 23) (.tmp 27) 45 (by rfl) 35 i0 _ 24 Try.underlying45 hi hz0 hz1 hz2 rfl base _ c.row (by rfl) R3 ad3 1 (.slice aj b.length cj) (by rfl) C3 rfl (by have := HC.out.1; have := HC.out.2.1; rw [hrl]; unfold maxLen; omega) (by have := HC.out.1; have := HC.out.2.1; rw [hrl]; omega) (Nat.le_trans HQ.out.1.lo.2.2 G.size) ?_
          intro v4 w4 R4 G4 B4
          obtain ⟨a4, l4, hv4⟩ := R4.len
          have hlr : (c.row ++ [Value.slice aj b.length cj]).length = c.fs.length + 1 := by simp [hrl]
          rw [hlr] at hv4
          subst hv4
          obtain ⟨HR0, QB4⟩ := lput_end HQ.out.1 HQ.out.2 HC.out.1 HC.out.2.1 HC.out.2.2.1 G O R4 G4 B4
          have HR : Hid (PutQ w base q k c b (w4.setCell ⟨q.gc, k * 3 + 2, none⟩ (.slice a4 (c.fs.length + 1) l4))) := HR0
          have c2' : w4.cell? ⟨q.gc, k * 3 + 2, none⟩ = some (.slice ao c.fs.length cap) := by
            have := HQ.out.1.heldc HQ.out.2
            rw [HQ.out.1.cls.cell, ← QB4.cell, HC.out.2.2.1] at this
            exact this
          have f2' := QB4.free (k * 3 + 2)
          clear HR0 QB4 R4 G4 B4 R3 O G C3 c2w
          refine hK.out _ _ trivial (fun hHeld => ?_)
          clear hK K hHeld
          try simp only [Act.put, List.getElem_toArray, List.getElem_cons_zero, List.getElem_cons_succ, List.setIfInBounds_toArray, List.set_cons_zero, List.set_cons_succ]
          refine wpAnyH_take (i := 10) (v := .pointer (some ⟨q.gc, k * 3, none⟩)) rfl (by kernel_rfl) (by kernel_rfl) (by kernel_rfl) (fun _ _ _ h => h) (Or.inl ⟨by rfl, fun W hW => ?_⟩) hHeld ?_
          · clear hW
            go_simp
          try simp only [Act.put, List.getElem_toArray, List.getElem_cons_zero, List.getElem_cons_succ, List.setIfInBounds_toArray, List.set_cons_zero, List.set_cons_succ]
          refine wpAnyH_take (i := 11) (v := .pointer (some ⟨q.gc, k * 3 + 2, none⟩)) rfl (by kernel_rfl) (by kernel_rfl) (by kernel_rfl) (fun _ _ _ h => h) (Or.inl ⟨by rfl, fun W hW => ?_⟩) hHeld ?_
          · clear hW
            go_simp
          try simp only [Act.put, List.getElem_toArray, List.getElem_cons_zero, List.getElem_cons_succ, List.setIfInBounds_toArray, List.set_cons_zero, List.set_cons_succ]
          refine wpAnyH_ready (rs := [12]) (by kernel_rfl) (by simp) (AllReadyH.cons rfl (fun K hK => ?_) AllReadyH.nil)
          go_simp
          refine hK.out _ _ trivial (fun hHeld => ?_)
          clear hK K hHeld
          try simp only [Act.put, List.getElem_toArray, List.getElem_cons_zero, List.getElem_cons_succ, List.setIfInBounds_toArray, List.set_cons_zero, List.set_cons_succ]
          refine wpAnyH_done (by kernel_rfl) ?_ _
          go_wp2
          go_ret
          exact ⟨rfl, HR.out⟩
        · have JN := wjoin_any (some ad) 1 [⟨a, ca, b⟩] _ C1 (by simpa using ⟨HA.out.1.keptNone G, HA.out.2⟩) (by simp) (by simp [joinS]; omega)
          have ej : joinS [⟨a, ca, b⟩] = b := by simp [joinS]
          rw [ej] at JN
          go_simp
          refine JN.mono ?_
          rintro e wm ⟨v, rfl, O2, Km⟩
          obtain ⟨aj, cj, rfl, -⟩ := O2.shape
          go_wp2_with fail
          refine hK.out _ _ trivial (fun hHeld => ?_)
          clear hK K JN ej hHeld
          have O := owns_mono O2 G.size
          replace G := grown_trans G Km
          replace c2w := Km.cell c2w (by simp)
          clear O2 Km C1
          try simp only [Act.put, List.getElem_toArray, List.getElem_cons_zero, List.getElem_cons_succ, List.setIfInBounds_toArray, List.set_cons_zero, List.set_cons_succ]
          refine wpAnyH_ready (rs := [4, 8]) (by kernel_rfl) (by simp) (AllReadyH.cons rfl (fun K hK => ?_) (AllReadyH.cons rfl (fun K hK => ?_) AllReadyH.nil))
          · go_simp
            refine hK.out _ _ trivial (fun hHeld => ?_)
            clear hK K hHeld
            try simp only [Act.put, List.getElem_toArray, List.getElem_cons_zero, List.getElem_cons_succ, List.setIfInBounds_toArray, List.set_cons_zero, List.set_cons_succ]
            refine wpAnyH_ready (rs := [8]) (by kernel_rfl) (by simp) (AllReadyH.cons rfl (fun K hK => ?_) AllReadyH.nil)
            refine step_litq (by rfl) 45 1 _ (by rfl) _ (by kernel_rfl) [.slice aj b.length cj] 35 (lbuild1 aj b.length cj) ?_
            intro ad3 wo C3 Ko
            refine hK.out _ _ trivial (fun hHeld => ?_)
            clear hK K hHeld
            replace G := grown_trans G Ko
            replace c2w := Ko.cell c2w (by simp)
            replace O := owns_keptNone O Ko
            clear Ko
            try simp only [Act.put, List.getElem_toArray, List.getElem_cons_zero, List.getElem_cons_succ, List.setIfInBounds_toArray, List.set_cons_zero, List.set_cons_succ]
            generalize wo = w3 at *
            have R3 : ORow w3 base 35 (.slice ao c.fs.length cap) c.row := by
              have := (HQ.out.1.hl.row c hcm).keptNone G
              rw [HC.out.2.2.1] at this
              exact this
            refine wpAnyH_ready (rs := [9]) (by kernel_rfl) (by simp) (AllReadyH.cons rfl (fun K hK => ?_) AllReadyH.nil)
            refine step_append_orow (by rfl) (.tmp 23) (.tmp 27) 45 (by rfl) 35 i0 _ 24 Try.underlying45 hi hz0 hz1 hz2 rfl base _ c.row (by rfl) R3 ad3 1 (.slice aj b.length cj) (by rfl) C3 rfl (by have := HC.out.1; have := HC.out.2.1; rw [hrl]; unfold maxLen; omega) (by have := HC.out.1; have := HC.out.2.1; rw [hrl]; omega) (Nat.le_trans HQ.out.1.lo.2.2 G.size) ?_
            intro v4 w4 R4 G4 B4
            obtain ⟨a4, l4, hv4⟩ := R4.len
            have hlr : (c.row ++ [Value.slice aj b.length cj]).length = c.fs.length + 1 := by simp [hrl]
            rw [hlr] at hv4
            subst hv4
            obtain ⟨HR0, QB4⟩ := lput_end HQ.out.1 HQ.out.2 HC.out.1 HC.out.2.1 HC.out.2.2.1 G O R4 G4 B4
            have HR : Hid (PutQ w base q k c b (w4.setCell ⟨q.gc, k * 3 + 2, none⟩ (.slice a4 (c.fs.length + 1) l4))) := HR0
            have c2' : w4.cell? ⟨q.gc, k * 3 + 2, none⟩ = some (.slice ao c.fs.length cap) := by
              have := HQ.out.1.heldc HQ.out.2
              rw [HQ.out.1.cls.cell, ← QB4.cell, HC.out.2.2.1] at this
              exact this
            have f2' := QB4.free (k * 3 + 2)
            clear HR0 QB4 R4 G4 B4 R3 O G C3 c2w
            refine hK.out _ _ trivial (fun hHeld => ?_)
            clear hK K hHeld
            try simp only [Act.put, List.getElem_toArray, List.getElem_cons_zero, List.getElem_cons_succ, List.setIfInBounds_toArray, List.set_cons_zero, List.set_cons_succ]
            refine wpAnyH_take (i := 10) (v := .pointer (some ⟨q.gc, k * 3, none⟩)) rfl (by kernel_rfl) (by kernel_rfl) (by kernel_rfl) (fun _ _ _ h => h) (Or.inl ⟨by rfl, fun W hW => ?_⟩) hHeld ?_
            · clear hW
              go_simp
            try simp only [Act.put, List.getElem_toArray, List.getElem_cons_zero, List.getElem_cons_succ, List.setIfInBounds_toArray, List.set_cons_zero, List.set_cons_succ]
            refine wpAnyH_take (i := 11) (v := .pointer (some ⟨q.gc, k * 3 + 2, none⟩)) rfl (by kernel_rfl) (by kernel_rfl) (by kernel_rfl) (fun _ _ _ h => h) (Or.inl ⟨by rfl, fun W hW => ?_⟩) hHeld ?_
            · clear hW
              go_simp
            try simp only [Act.put, List.getElem_toArray, List.getElem_cons_zero, List.getElem_cons_succ, List.setIfInBounds_toArray, List.set_cons_zero, List.set_cons_succ]
            refine wpAnyH_ready (rs := [12]) (by kernel_rfl) (by simp) (AllReadyH.cons rfl (fun K hK => ?_) AllReadyH.nil)
            go_simp
            refine hK.out _ _ trivial (fun hHeld => ?_)
            clear hK K hHeld
            try simp only [Act.put, List.getElem_toArray, List.getElem_cons_zero, List.getElem_cons_succ, List.setIfInBounds_toArray, List.set_cons_zero, List.set_cons_succ]
            refine wpAnyH_done (by kernel_rfl) ?_ _
            go_wp2
            go_ret
            exact ⟨rfl, HR.out⟩
          · refine step_litq (by rfl) 45 1 _ (by rfl) _ (by kernel_rfl) [.slice aj b.length cj] 35 (lbuild1 aj b.length cj) ?_
            intro ad3 wo C3 Ko
            refine hK.out _ _ trivial (fun hHeld => ?_)
            clear hK K hHeld
            replace G := grown_trans G Ko
            replace c2w := Ko.cell c2w (by simp)
            replace O := owns_keptNone O Ko
            clear Ko
            try simp only [Act.put, List.getElem_toArray, List.getElem_cons_zero, List.getElem_cons_succ, List.setIfInBounds_toArray, List.set_cons_zero, List.set_cons_succ]
            refine wpAnyH_ready (rs := [4]) (by kernel_rfl) (by simp) (AllReadyH.cons rfl (fun K hK => ?_) AllReadyH.nil)
            go_simp
            refine hK.out _ _ trivial (fun hHeld => ?_)
            clear hK K hHeld
            try simp only [Act.put, List.getElem_toArray, List.getElem_cons_zero, List.getElem_cons_succ, List.setIfInBounds_toArray, List.set_cons_zero, List.set_cons_succ]
            generalize wo = w3 at *
            have R3 : ORow w3 base 35 (.slice ao c.fs.length cap) c.row := by
              have := (HQ.out.1.hl.row c hcm).keptNone G
              rw [HC.out.2.2.1] at this
              exact this
            refine wpAnyH_ready (rs := [9]) (by kernel_rfl) (by simp) (AllReadyH.cons rfl (fun K hK => ?_) AllReadyH.nil)
            refine step_append_orow (by rfl) (.tmp 23) (.tmp 27) 45 (by rfl) 35 i0 _ 24 Try.underlying45 hi hz0 hz1 hz2 rfl base _ c.row (by rfl) R3 ad3 1 (.slice aj b.length cj) (by rfl) C3 rfl (by have := HC.out.1; have := HC.out.2.1; rw [hrl]; unfold maxLen; omega) (by have := HC.out.1; have := HC.out.2.1; rw [hrl]; omega) (Nat.le_trans HQ.out.1.lo.2.2 G.size) ?_
            intro v4 w4 R4 G4 B4
            obtain ⟨a4, l4, hv4⟩ := R4.len
            have hlr : (c.row ++ [Value.slice aj b.length cj]).length = c.fs.length + 1 := by simp [hrl]
            rw [hlr] at hv4
            subst hv4
            obtain ⟨HR0, QB4⟩ := lput_end HQ.out.1 HQ.out.2 HC.out.1 HC.out.2.1 HC.out.2.2.1 G O R4 G4 B4
            have HR : Hid (PutQ w base q k c b (w4.setCell ⟨q.gc, k * 3 + 2, none⟩ (.slice a4 (c.fs.length + 1) l4))) := HR0
            have c2' : w4.cell? ⟨q.gc, k * 3 + 2, none⟩ = some (.slice ao c.fs.length cap) := by
              have := HQ.out.1.heldc HQ.out.2
              rw [HQ.out.1.cls.cell, ← QB4.cell, HC.out.2.2.1] at this
              exact this
            have f2' := QB4.free (k * 3 + 2)
            clear HR0 QB4 R4 G4 B4 R3 O G C3 c2w
            refine hK.out _ _ trivial (fun hHeld => ?_)
            clear hK K hHeld
            try simp only [Act.put, List.getElem_toArray, List.getElem_cons_zero, List.getElem_cons_succ, List.setIfInBounds_toArray, List.set_cons_zero, List.set_cons_succ]
            refine wpAnyH_take (i := 10) (v := .pointer (some ⟨q.gc, k * 3, none⟩)) rfl (by kernel_rfl) (by kernel_rfl) (by kernel_rfl) (fun _ _ _ h => h) (Or.inl ⟨by rfl, fun W hW => ?_⟩) hHeld ?_
            · clear hW
              go_simp
            try simp only [Act.put, List.getElem_toArray, List.getElem_cons_zero, List.getElem_cons_succ, List.setIfInBounds_toArray, List.set_cons_zero, List.set_cons_succ]
            refine wpAnyH_take (i := 11) (v := .pointer (some ⟨q.gc, k * 3 + 2, none⟩)) rfl (by kernel_rfl) (by kernel_rfl) (by kernel_rfl) (fun _ _ _ h => h) (Or.inl ⟨by rfl, fun W hW => ?_⟩) hHeld ?_
            · clear hW
              go_simp
            try simp only [Act.put, List.getElem_toArray, List.getElem_cons_zero, List.getElem_cons_succ, List.setIfInBounds_toArray, List.set_cons_zero, List.set_cons_succ]
            refine wpAnyH_ready (rs := [12]) (by kernel_rfl) (by simp) (AllReadyH.cons rfl (fun K hK => ?_) AllReadyH.nil)
            go_simp
            refine hK.out _ _ trivial (fun hHeld => ?_)
            clear hK K hHeld
            try simp only [Act.put, List.getElem_toArray, List.getElem_cons_zero, List.getElem_cons_succ, List.setIfInBounds_toArray, List.set_cons_zero, List.set_cons_succ]
            refine wpAnyH_done (by kernel_rfl) ?_ _
            go_wp2
            go_ret
            exact ⟨rfl, HR.out⟩
  · have er : c.abs.room = false := by rw [hroom]; exact decide_eq_false hr
    have hg : decide (c.dep ≤ c.fs.length) = true := decide_eq_true (by omega)
    have hput : c.abs.put b = ⟨c.dep, min (c.lost + 1) 4294967295, c.fs.map Fr.b⟩ := by
      unfold Qc.put
      rw [if_neg (by rw [er]; simp)]
      rfl
    have HC : Hid (c.abs.put b = ⟨c.dep, min (c.lost + 1) 4294967295, c.fs.map Fr.b⟩ ∧ c.lost ≤ 4294967295) := ⟨hput, hdep.2.2⟩
    have HD := fun W h1 h2 => ldrop_any q.gc (k * 3) c.lost W h1 h2 hdep.2.2
    rw [er]
    clear hroom hr er hput hdep hq hk ha ha0
    rw [hh] at c2
    clear hh
    go_enter Try.func35, Try.ntmps35
    go_upto_region 2 with (go_quiet (fail))
    all_goals
      go_wp2_with fail
      refine (HD (w.drewN nq) c0 f0).mono ?_
      rintro e w2 ⟨rfl, w1, K, rfl⟩
      have Q1 : LqAt w1 base q := HQ.out.1.keptNone (grown_trans (grown_drewN w nq none) K)
      have G1 : w.grownBy w1 none := grown_trans (grown_drewN w nq none) K
      have m1 : min (c.lost + 1) 4294967295 ≤ 4294967295 := Nat.min_le_right _ _
      have HR : Hid (PutQ w base q k c b (w1.setCell ⟨q.gc, k * 3, none⟩ (.int .u32 ((min (c.lost + 1) 4294967295 : Nat) : Int)))) :=
        ⟨_, by rw [HC.out.1]; rfl, Q1.drop HQ.out.2 _ m1, (GW.non G1).set _ _ (.inl (.inr (.inl rfl))), lq_foots HQ.out.2 (fun y hy => .inl hy) (fun f hf => .inl hf)⟩
      clear HD K Q1 G1 m1 c0 c1 c2 f0 f2
      generalize w1.setCell ⟨q.gc, k * 3, none⟩ (.int .u32 ((min (c.lost + 1) 4294967295 : Nat) : Int)) = w3 at *
      go_wp2
      go_ret
      exact ⟨rfl, HR.out⟩

end Go.Proofs.Ytlfjpbedjmnpaaa
