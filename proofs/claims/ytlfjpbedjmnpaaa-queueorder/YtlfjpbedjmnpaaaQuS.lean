/-
  The document's own queue: Put.
-/
import Derived.Test.YtlfjpbedjmnpaaaQuR
import Derived.Deep.DeepCutAuto
namespace Go.Proofs.Ytlfjpbedjmnpaaa
open Go.RowKit
set_option maxRecDepth 100000

def Rq.abs (q : Rq) : List Qc := q.cs.map Cq.abs

/-- What Put leaves. -/
def PutR (w : World) (base : Nat) (q : Rq) (cl : Int) (b : List UInt8) (e : Ending) (w' : World) : Prop :=
  e = .returned (.tuple #[.bool (putB q.abs cl b), .int .i64 (putE q.abs cl b)]) ∧ ∃ q' : Rq, RqAt w' base q' ∧ q'.g = q.g ∧ q'.abs = putP q.abs cl b ∧ GW w w' q.foot ∧ Foots w q.foot q'.foot

theorem PutR.no {w : World} {base : Nat} {q : Rq} {cl n : Int} {b : List UInt8} (h : RqAt w base q) (he : putE q.abs cl b = n) (hn : n ≠ 0) : PutR w base q cl b (.returned (.tuple #[.bool false, .int .i64 n])) w := by
  refine ⟨?_, q, h, rfl, ?_, GW.refl _ _, Foots.refl _ _⟩
  · unfold putB
    rw [he, if_neg hn]
  · unfold putP
    rw [he, if_neg hn]

theorem rq_foot_held {q : Rq} {k : Nat} {c : Cq} (hk : q.cs[k]? = some c) {x : Nat} (hx : c.h.ownBlock = some x) : q.foot x := .inr (.inr (.inr (.inr (.inl (mem_hblk (List.mem_of_getElem? hk) hx)))))

theorem putR_yes {w w' : World} {base k : Nat} {q : Rq} {c c' : Cq} {b : List UInt8} {r : Bool} (hk : q.cs[k]? = some c) (hE : putE q.abs (k : Int) b = 0) (hr : c.abs.room = r) (hc : c'.abs = c.abs.put b) (L : RqAt w' base (q.with k c')) (G : GW w w' q.foot) (F : Foots w q.foot (q.with k c').foot) : PutR w base q (k : Int) b (.returned (.tuple #[.bool r, .int .i64 0])) w' := by
  have hB : putB q.abs (k : Int) b = r := by
    unfold putB
    rw [if_pos hE]
    unfold Rq.abs
    rw [Int.toNat_natCast, abs_get hk, hr]
  refine ⟨by rw [hB, hE], q.with k c', L, rfl, ?_, G, F⟩
  unfold putP
  rw [if_pos hE]
  unfold Rq.abs Rq.with
  rw [Int.toNat_natCast, abs_get hk, List.map_set, hc]

/-- What is left behind one frame more. -/
theorem rput_end {w w3 w4 : World} {base k cap l4 cj : Nat} {q : Rq} {c : Cq} {ao a4 aj : Option Addr} {b : List UInt8} (hq : RqAt w base q) (hk : q.cs[k]? = some c) (hE : putE q.abs (k : Int) b = 0) (hd : c.dep ≤ 1024) (hr : c.fs.length < c.dep) (hh : c.h = .slice ao c.fs.length cap) (G : w.grownBy w3 none) (O : Owns w3 w.heap.size (.slice aj b.length cj) b)
    (R4 : ORow w4 base 35 (.slice a4 (c.fs.length + 1) l4) (c.row ++ [.slice aj b.length cj])) (G4 : w3.grownBy w4 (Value.slice ao c.fs.length cap).ownBlock) (B4 : (Value.slice a4 (c.fs.length + 1) l4).ownBlock = (Value.slice ao c.fs.length cap).ownBlock ∨ ∀ y, (Value.slice a4 (c.fs.length + 1) l4).ownBlock = some y → w3.heap.size ≤ y) :
    PutR w base q (k : Int) b (.returned (.tuple #[.bool true, .int .i64 0])) (w4.setCell ⟨q.gf, k, none⟩ (.slice a4 (c.fs.length + 1) l4)) ∧ QBk w4 q.gf 45 (q.cs.map Cq.h).toArray ∧ QBk w4 q.g 56 #[q.dv, q.fv, q.lv] := by
  have hcm := List.mem_of_getElem? hk
  have HP := hq.hl.put (w1 := w3) hk hq.lo.2.2.2.2 G O R4 (by rw [hh]; exact G4) (by rw [hh]; exact B4)
  have GG : GW w w4 (fun x => c.h.ownBlock = some x) := (GW.non G).trans (GW.of (S := fun x => c.h.ownBlock = some x) G4 (fun x hx => by rw [hh]; exact hx)) (fun x _ h => h)
  have AT := hq.held hk GG HP (by simp; omega)
  have FT : Foots w q.foot (q.with k ⟨c.dep, c.lost, .slice a4 (c.fs.length + 1) l4, c.fs ++ [⟨.slice aj b.length cj, b⟩]⟩).foot := rq_foots hk (fun y hy => by
    rcases B4 with h | h
    · exact .inl (by rw [hh, ← h]; exact hy)
    · have := h y hy; have := G.size; exact .inr (by omega)) (fun f hf => by
    rcases List.mem_append.1 hf with h | h
    · exact .inl h
    · obtain rfl : f = ⟨.slice aj b.length cj, b⟩ := by simpa using h
      exact .inr fun y hy => (O.lt y hy).1)
  have GF : GW w (w4.setCell ⟨q.gf, k, none⟩ (.slice a4 (c.fs.length + 1) l4)) q.foot := (GG.mono (fun x _ h => rq_foot_held hk h)).set _ _ (.inl (.inr (.inr (.inl rfl))))
  have hroom : c.abs.room = true := by simp [Qc.room, Cq.abs]; omega
  have hput : c.abs.put b = ⟨c.dep, c.lost, c.fs.map Fr.b ++ [b]⟩ := by
    unfold Qc.put
    rw [if_pos hroom]
    rfl
  exact ⟨putR_yes hk hE hroom (by rw [hput]; simp [Cq.abs]) AT GF FT, GG.qbk hq.frs (fun e => (hq.hl.tys hq.frs (by decide) (by decide)).1 (mem_hblk hcm e)), GG.qbk hq.blk (fun e => (hq.hl.tys hq.blk (by decide) (by decide)).1 (mem_hblk hcm e))⟩

theorem own_cne {w w1 : World} {base e e' size n c g g' o : Nat} {xs : List Value} {cs : Array Value} (h : w1.ownsRow base e size (.slice (some ⟨g, 0, none⟩) n c) n xs) (k : QBk w g' e' cs) (G : w.grownBy w1 none) (he : e ≠ e') : some (Addr.mk g' o none).block ≠ (Value.slice (some ⟨g, 0, none⟩) n c).ownBlock := by
  intro e0
  have e0 := Option.some.inj e0
  exact own_tne h (k.keptNone G) he e0.symm

/-- 'append(dst, src...)' in a statement whose order is open: src whatever is read. -/
theorem step_append_cvo {P : Program} {ops : Array Oper} {o : Oper} {a : Act} {w : World} {K : Act → World → Prop} {Q : Exit → Act → World → Prop} {E : Prop}
    (hgd : o.guard = none) (s x : Operand) (t : TypeId) (ho : o.op = .call { callee := .builtin .append, args := #[s, x], argTypes := #[t, t] })
    (e : TypeId) (i : TypeInfo) (z : Value) (size bytes : Nat) (ht : P.underlying t = some (.slice e)) (hi : P.info? e = some i) (hz : i.zero = some z) (hsize : i.size = size) (hby : i.bytes = bytes) (hzs : z.cells.size = size) (hsz : 0 < size)
    (base : Nat) (v : Value) (n : Nat) (vs : List Value) (hs : a.eval s = v) (hown : w.ownsRow base e size v n vs)
    (ao : Option Addr) (m c : Nat) (us : List Value) (hx : a.eval x = .slice ao m c) (hl : us.length = m * size) (hc0 : ao = none → c = 0) (hus : CV w ao us) (h1 : ∀ u ∈ us, u.oneCell' = true)
    (h63 : n + m ≤ maxLen) (hbytes : (n + m) * bytes ≤ 140737488355328) (hbase : base ≤ w.heap.size)
    (hK : ∀ v' w', w'.ownsRow base e size v' (n + m) (vs ++ us) → w.grownBy w' v.ownBlock → K (a.put o.dst v') w') :
    if Region.wanted o (yielded ops a.tmps) = true then Oper.wp P o a w K Q else E := by
  cases ao with
  | some ad => exact step_append_cv hgd s x t ho e i z size bytes ht hi hz hsize hby hzs hsz base v n vs hs hown ad m c us hx hl hus h1 h63 hbytes hbase hK
  | none =>
    have e0 := hus.1 rfl
    subst e0
    have e1 := hc0 rfl
    subst e1
    have e2 : m = 0 := by
      rcases Nat.mul_eq_zero.1 hl.symm with h | h
      · exact h
      · omega
    subst e2
    have hw : Region.wanted o (yielded ops a.tmps) = true := by simp [Region.wanted, hgd]
    rw [if_pos hw]
    have hrun := run_append_owned_none (P := P) (w := w) base t o.type e i size ht hi v n vs hown
    unfold Oper.wp execOp
    simp only [ho, resolve, invoke, builtin, Sem.run_bind, Sem.run_pure, Result.andThen_ok, List.map_toArray, List.map_cons, List.map_nil, hs, hx, hrun]
    exact hK _ _ (by simpa using hown) (World.grownBy.refl _ _)

theorem bld0b (W : World) : (Instr.buildSlice 35 0 #[]).run Try.prog W = .ok (.slice (some ⟨W.heap.size, 0, none⟩) 0 0) (W.alloc (.cells #[] 5)) := by kernel_rfl

set_option maxHeartbeats 4000000 in
theorem rqput_any (base : Nat) (q : Rq) (cl : Int) (a : Option Addr) (ca : Nat) (b : List UInt8) (w : World) (hq : RqAt w base q) (ha : Cells w a b) (ha0 : a = none → ca = 0) :
    Calls Try.prog 33 #[.pointer (some ⟨q.g, 0, none⟩), .int .i64 cl, .slice a b.length ca] w (PutR w base q cl b) := by
  obtain ⟨x0, x1, x2⟩ := hq.cells3
  have hal : (q.abs.length : Int) = (q.cs.length : Int) := by simp [Rq.abs]
  have HS : Hid (w.cell? ⟨q.g, 1, none⟩ = some q.fv ∧ w.cell? ⟨q.g, 2, none⟩ = some q.lv) := ⟨x1, x2⟩
  unfold Rq.dv at x0
  unfold Rq.fv at x1
  unfold Rq.lv at x2
  by_cases h1 : cl < 0
  · have HR : Hid (PutR w base q cl b (.returned (.tuple #[.bool false, .int .i64 211])) w) := PutR.no hq (by unfold putE; rw [if_pos (.inl h1)]) (by decide)
    clear hq ha ha0 hal
    go_enter Try.func33, Try.ntmps33
    go_wp2
    go_ret2
    exact HR.out
  · by_cases h2 : (q.cs.length : Int) ≤ cl
    · have HR : Hid (PutR w base q cl b (.returned (.tuple #[.bool false, .int .i64 211])) w) := PutR.no hq (by unfold putE; rw [if_pos (.inr (by omega))]) (by decide)
      clear hq ha ha0 hal
      go_enter Try.func33, Try.ntmps33
      go_wp2
      go_ret2
      exact HR.out
    · have hx : ¬ (cl < 0 ∨ (q.abs.length : Int) ≤ cl) := by omega
      by_cases h3 : 65535 < b.length
      · have HR : Hid (PutR w base q cl b (.returned (.tuple #[.bool false, .int .i64 212])) w) := PutR.no hq (by unfold putE; rw [if_neg hx, if_pos h3]) (by decide)
        have h3' : (65535 : Int) < (b.length : Int) := by omega
        clear hq ha ha0 hal hx h3
        go_enter Try.func33, Try.ntmps33
        go_wp2
        go_ret2
        exact HR.out
      · have hE : putE q.abs cl b = 0 := by unfold putE; rw [if_neg hx, if_neg h3]
        obtain ⟨k, rfl⟩ := Int.eq_ofNat_of_zero_le (show 0 ≤ cl by omega)
        have hk : k < q.cs.length := by omega
        have hkc : q.cs[k]? = some q.cs[k] := List.getElem?_eq_getElem hk
        generalize q.cs[k] = c at *
        have hcm := List.mem_of_getElem? hkc
        have c0 := hq.lostc hkc
        have c1 := hq.depc hkc
        have c2 := hq.heldc hkc
        have hdep := hq.dep c hcm
        obtain ⟨ao, cap, hh, -⟩ := (hq.hl.row c hcm).cv
        have hrl : c.row.length = c.fs.length := by unfold Cq.row; rw [List.length_map]
        rw [hrl] at hh
        rw [hh] at c2
        have HQ : Hid (RqAt w base q ∧ q.cs[k]? = some c ∧ putE q.abs (k : Int) b = 0) := ⟨hq, hkc, hE⟩
        have HA : Hid (Cells w a b ∧ (a = none → ca = 0) ∧ b.length ≤ 65535) := ⟨ha, ha0, by omega⟩
        have h3' : ¬ (65535 : Int) < (b.length : Int) := by omega
        have hki : ¬ ((q.cs.length : Int) ≤ (k : Int)) := by omega
        have hki2 : (k : Int) < (q.cs.length : Int) := by omega
        have hki3 : ¬ ((k : Int) < 0) := by omega
        have hroom : c.abs.room = decide (c.fs.length < c.dep) := by simp [Qc.room, Cq.abs]
        by_cases hr : c.fs.length < c.dep
        · have hg : decide (c.dep ≤ c.fs.length) = false := decide_eq_false (by omega)
          have HC : Hid (c.dep ≤ 1024 ∧ c.fs.length < c.dep ∧ c.h = .slice ao c.fs.length cap) := ⟨hdep.1, hr, hh⟩
          clear hroom hr hdep hq hkc ha ha0 hx h1 h2 h3 hE hal hh
          obtain ⟨i0, hi, hz0, hz1, hz2⟩ := info_parts infoSl
          obtain ⟨i1, ji, jz0, jz1, jz2⟩ := info_parts info5
          go_enter Try.func33, Try.ntmps33
          go_upto_region 5 with fail
          go_upto_region 8 with (go_quiet (fail))
          all_goals
            refine wp_region_held_drew (S := fun W => W.cell? ⟨q.g, 1, none⟩ = some q.fv) (by kernel_rfl) (HS.out.1) (fun hHeld => ?_)
            refine wpAnyH_take (i := 0) (v := .pointer (some ⟨q.g, 0, none⟩)) rfl (by kernel_rfl) (by kernel_rfl) (by kernel_rfl) (fun _ _ _ h => h) (Or.inl ⟨by rfl, fun W hW => ?_⟩) hHeld ?_
            · clear hW
              go_simp
            try simp only [Act.put, List.getElem_toArray, List.getElem_cons_zero, List.setIfInBounds_toArray, List.set_cons_zero, List.set_cons_succ]
            refine wpAnyH_take (i := 1) (v := .pointer (some ⟨q.g, 0, none⟩)) rfl (by kernel_rfl) (by kernel_rfl) (by kernel_rfl) (fun _ _ _ h => h) (Or.inl ⟨by rfl, fun W hW => ?_⟩) hHeld ?_
            · clear hW
              go_simp
            try simp only [Act.put, List.getElem_toArray, List.getElem_cons_zero, List.getElem_cons_succ, List.setIfInBounds_toArray, List.set_cons_zero, List.set_cons_succ]
            refine wpAnyH_take (i := 2) (v := .pointer (some ⟨q.g, 1, none⟩)) rfl (by kernel_rfl) (by kernel_rfl) (by kernel_rfl) (fun _ _ _ h => h) (Or.inl ⟨by rfl, fun W hW => ?_⟩) hHeld ?_
            · clear hW
              go_simp
            try simp only [Act.put, List.getElem_toArray, List.getElem_cons_zero, List.getElem_cons_succ, List.setIfInBounds_toArray, List.set_cons_zero, List.set_cons_succ]
            refine wpAnyH_take (i := 3) (v := .slice (some ⟨q.gf, 0, none⟩) q.cs.length q.cs.length) rfl (by kernel_rfl) (by kernel_rfl) (by kernel_rfl) (fun _ _ _ h => h) (Or.inl ⟨by rfl, fun W hW => ?_⟩) hHeld ?_
            · have hx : W.cell? ⟨q.g, 1, none⟩ = some (.slice (some ⟨q.gf, 0, none⟩) q.cs.length q.cs.length) := hW
              clear hW
              go_simp
            try simp only [Act.put, List.getElem_toArray, List.getElem_cons_zero, List.getElem_cons_succ, List.setIfInBounds_toArray, List.set_cons_zero, List.set_cons_succ]
            refine wpAnyH_take (i := 4) (v := .int .i64 (k : Int)) rfl (by kernel_rfl) (by kernel_rfl) (by kernel_rfl) (fun _ _ _ h => h) (Or.inl ⟨by rfl, fun W hW => ?_⟩) hHeld ?_
            · clear hW
              go_simp
            try simp only [Act.put, List.getElem_toArray, List.getElem_cons_zero, List.getElem_cons_succ, List.setIfInBounds_toArray, List.set_cons_zero, List.set_cons_succ]
            refine wpAnyH_take (i := 5) (v := .pointer (some ⟨q.g, 0, none⟩)) rfl (by kernel_rfl) (by kernel_rfl) (by kernel_rfl) (fun _ _ _ h => h) (Or.inl ⟨by rfl, fun W hW => ?_⟩) hHeld ?_
            · clear hW
              go_simp
            try simp only [Act.put, List.getElem_toArray, List.getElem_cons_zero, List.getElem_cons_succ, List.setIfInBounds_toArray, List.set_cons_zero, List.set_cons_succ]
            refine wpAnyH_take (i := 6) (v := .pointer (some ⟨q.g, 0, none⟩)) rfl (by kernel_rfl) (by kernel_rfl) (by kernel_rfl) (fun _ _ _ h => h) (Or.inl ⟨by rfl, fun W hW => ?_⟩) hHeld ?_
            · clear hW
              go_simp
            try simp only [Act.put, List.getElem_toArray, List.getElem_cons_zero, List.getElem_cons_succ, List.setIfInBounds_toArray, List.set_cons_zero, List.set_cons_succ]
            refine wpAnyH_take (i := 7) (v := .pointer (some ⟨q.g, 1, none⟩)) rfl (by kernel_rfl) (by kernel_rfl) (by kernel_rfl) (fun _ _ _ h => h) (Or.inl ⟨by rfl, fun W hW => ?_⟩) hHeld ?_
            · clear hW
              go_simp
            try simp only [Act.put, List.getElem_toArray, List.getElem_cons_zero, List.getElem_cons_succ, List.setIfInBounds_toArray, List.set_cons_zero, List.set_cons_succ]
            refine wpAnyH_take (i := 8) (v := .slice (some ⟨q.gf, 0, none⟩) q.cs.length q.cs.length) rfl (by kernel_rfl) (by kernel_rfl) (by kernel_rfl) (fun _ _ _ h => h) (Or.inl ⟨by rfl, fun W hW => ?_⟩) hHeld ?_
            · have hx : W.cell? ⟨q.g, 1, none⟩ = some (.slice (some ⟨q.gf, 0, none⟩) q.cs.length q.cs.length) := hW
              clear hW
              go_simp
            try simp only [Act.put, List.getElem_toArray, List.getElem_cons_zero, List.getElem_cons_succ, List.setIfInBounds_toArray, List.set_cons_zero, List.set_cons_succ]
            refine wpAnyH_take (i := 9) (v := .int .i64 (k : Int)) rfl (by kernel_rfl) (by kernel_rfl) (by kernel_rfl) (fun _ _ _ h => h) (Or.inl ⟨by rfl, fun W hW => ?_⟩) hHeld ?_
            · clear hW
              go_simp
            try simp only [Act.put, List.getElem_toArray, List.getElem_cons_zero, List.getElem_cons_succ, List.setIfInBounds_toArray, List.set_cons_zero, List.set_cons_succ]
            refine wpAnyH_take (i := 10) (v := .pointer (some ⟨q.gf, k, none⟩)) rfl (by kernel_rfl) (by kernel_rfl) (by kernel_rfl) (fun _ _ _ h => h) (Or.inl ⟨by rfl, fun W hW => ?_⟩) hHeld ?_
            · clear hW
              go_simp
            try simp only [Act.put, List.getElem_toArray, List.getElem_cons_zero, List.getElem_cons_succ, List.setIfInBounds_toArray, List.set_cons_zero, List.set_cons_succ]
            refine wpAnyH_take (i := 13) (v := .slice a b.length ca) rfl (by kernel_rfl) (by kernel_rfl) (by kernel_rfl) (fun _ _ _ h => h) (Or.inl ⟨by rfl, fun W hW => ?_⟩) hHeld ?_
            · clear hW
              go_simp
            try simp only [Act.put, List.getElem_toArray, List.getElem_cons_zero, List.getElem_cons_succ, List.setIfInBounds_toArray, List.set_cons_zero, List.set_cons_succ]
            have G : w.grownBy (w.drewN nq).drew none := ⟨rfl, rfl, rfl, Nat.le_refl _, fun _ _ _ => rfl⟩
            have c2w : (w.drewN nq).drew.cell? ⟨q.gf, k, none⟩ = some (.slice ao c.fs.length cap) := c2
            generalize (w.drewN nq).drew = wc at *
            clear c0 c1 c2 x0 x1 x2
            refine wpAnyH_ready (rs := [11, 12]) (by kernel_rfl) (by simp) (AllReadyH.cons rfl (fun K hK => ?_) (AllReadyH.cons rfl (fun K hK => ?_) AllReadyH.nil))
            · go_simp
              refine hK.out _ _ hHeld (fun hHeld => ?_)
              clear hK K
              try simp only [Act.put, List.getElem_toArray, List.getElem_cons_zero, List.getElem_cons_succ, List.setIfInBounds_toArray, List.set_cons_zero, List.set_cons_succ]
              refine wpAnyH_ready (rs := [12]) (by kernel_rfl) (by simp) (AllReadyH.cons rfl (fun K hK => ?_) AllReadyH.nil)
              refine step_bld0 (by rfl) 35 5 (by rfl) bld0b ?_
              intro g0 wn E0 hg0n Kn
              have hg0 : w.heap.size ≤ g0 := Nat.le_trans G.size hg0n
              refine hK.out _ _ (Kn.cell hHeld (by simp)) (fun hHeld => ?_)
              clear hK K hg0n
              replace G := grown_trans G Kn
              replace c2w := Kn.cell c2w (by simp)
              clear Kn
              try simp only [Act.put, List.getElem_toArray, List.getElem_cons_zero, List.getElem_cons_succ, List.setIfInBounds_toArray, List.set_cons_zero, List.set_cons_succ]
              refine wpAnyH_ready (rs := [14]) (by kernel_rfl) (by simp) (AllReadyH.cons rfl (fun K hK => ?_) AllReadyH.nil)
              refine step_append_cvo (by rfl) (.tmp 67) (.tmp 68) 35 (by rfl) 5 i1 _ 1 1 Try.underlying35 ji jz0 jz1 jz2 rfl (by decide) g0 _ 0 [] (by rfl) E0 a b.length ca (b.map bv) (by rfl) (by simp) HA.out.2.1 (HA.out.1.keptNone G).cv (bv_one b) (by have := HA.out.2.2; unfold maxLen; omega) (by have := HA.out.2.2; omega) (Nat.le_of_lt (E0.lt g0 rfl).2) ?_
              intro vj wm Oj Kj
              rw [Nat.zero_add, List.nil_append] at Oj
              have hSm := Kj.cell hHeld (own_cne E0 HQ.out.1.blk G (by decide))
              have c2m := Kj.cell c2w (own_cne E0 HQ.out.1.frs G (by decide))
              have Gm : w.grownBy wm none := grown_trans_new G Kj (fun x hx => by cases hx; exact hg0)
              refine hK.out _ _ hSm (fun hHeld => ?_)
              clear hK K hSm
              have O : Owns wm w.heap.size vj b := owns_mono Oj hg0
              obtain ⟨aj, cj, hvj, -⟩ := O.shape
              subst hvj
              replace G := Gm
              replace c2w := c2m
              clear Oj Kj E0 hg0 Gm c2m
              try simp only [Act.put, List.getElem_toArray, List.getElem_cons_zero, List.getElem_cons_succ, List.setIfInBounds_toArray, List.set_cons_zero, List.set_cons_succ]
              refine wpAnyH_ready (rs := [15]) (by kernel_rfl) (by simp) (AllReadyH.cons rfl (fun K hK => ?_) AllReadyH.nil)
              refine step_litq (by rfl) 45 1 _ (by rfl) _ (by kernel_rfl) [.slice aj b.length cj] 35 (lbuild1 aj b.length cj) ?_
              intro ad3 wo C3 Ko
              refine hK.out _ _ (Ko.cell hHeld (by simp)) (fun hHeld => ?_)
              clear hK K
              replace G := grown_trans G Ko
              replace c2w := Ko.cell c2w (by simp)
              replace O := owns_keptNone O Ko
              clear Ko
              try simp only [Act.put, List.getElem_toArray, List.getElem_cons_zero, List.getElem_cons_succ, List.setIfInBounds_toArray, List.set_cons_zero, List.set_cons_succ]
              generalize wo = w3 at *
              have R3 : ORow w3 base 35 (.slice ao c.fs.length cap) c.row := by
                have := (HQ.out.1.hl.row c hcm).keptNone G
                rw [HC.out.2.2] at this
                exact this
              refine wpAnyH_ready (rs := [16]) (by kernel_rfl) (by simp) (AllReadyH.cons rfl (fun K hK => ?_) AllReadyH.nil)
              refine step_append_orow (by rfl) (.tmp 66) (.tmp 70) 45 (by rfl) 35 i0 _ 24 Try.underlying45 hi hz0 hz1 hz2 rfl base _ c.row (by rfl) R3 ad3 1 (.slice aj b.length cj) (by rfl) C3 rfl (by have := HC.out.1; have := HC.out.2.1; rw [hrl]; unfold maxLen; omega) (by have := HC.out.1; have := HC.out.2.1; rw [hrl]; omega) (Nat.le_trans HQ.out.1.lo.2.2.2.2 G.size) ?_
              intro v4 w4 R4 G4 B4
              obtain ⟨a4, l4, hv4⟩ := R4.len
              have hlr : (c.row ++ [Value.slice aj b.length cj]).length = c.fs.length + 1 := by simp [hrl]
              rw [hlr] at hv4
              subst hv4
              obtain ⟨HR0, QB4, QG4⟩ := rput_end HQ.out.1 HQ.out.2.1 HQ.out.2.2 HC.out.1 HC.out.2.1 HC.out.2.2 G O R4 G4 B4
              have HR : Hid (PutR w base q (k : Int) b (.returned (.tuple #[.bool true, .int .i64 0])) (w4.setCell ⟨q.gf, k, none⟩ (.slice a4 (c.fs.length + 1) l4))) := HR0
              have c2' : w4.cell? ⟨q.gf, k, none⟩ = some (.slice ao c.fs.length cap) := by
                have := HQ.out.1.heldc HQ.out.2.1
                rw [HQ.out.1.frs.cell, ← QB4.cell, HC.out.2.2] at this
                exact this
              have f2' := QB4.free k
              have hS4 : w4.cell? ⟨q.g, 1, none⟩ = some q.fv := QG4.cell 1
              have hS5 : (w4.setCell ⟨q.gf, k, none⟩ (.slice a4 (c.fs.length + 1) l4)).cell? ⟨q.g, 1, none⟩ = some q.fv := (grown_set1 w4 ⟨q.gf, k, none⟩ _).cell hS4 (by simpa using HQ.out.1.ne.2.1)
              clear HR0 QB4 QG4 R4 G4 B4 R3 O G C3 c2w
              refine hK.out _ _ hS4 (fun hHeld => ?_)
              clear hK K
              try simp only [Act.put, List.getElem_toArray, List.getElem_cons_zero, List.getElem_cons_succ, List.setIfInBounds_toArray, List.set_cons_zero, List.set_cons_succ]
              refine wpAnyH_take (i := 17) (v := .pointer (some ⟨q.gf, k, none⟩)) rfl (by kernel_rfl) (by kernel_rfl) (by kernel_rfl) (fun _ _ _ h => h) (Or.inl ⟨by rfl, fun W hW => ?_⟩) hHeld ?_
              · clear hW
                go_simp
              try simp only [Act.put, List.getElem_toArray, List.getElem_cons_zero, List.getElem_cons_succ, List.setIfInBounds_toArray, List.set_cons_zero, List.set_cons_succ]
              refine wpAnyH_ready (rs := [18]) (by kernel_rfl) (by simp) (AllReadyH.cons rfl (fun K hK => ?_) AllReadyH.nil)
              go_simp
              refine hK.out _ _ hS5 (fun hHeld => ?_)
              clear hK K
              try simp only [Act.put, List.getElem_toArray, List.getElem_cons_zero, List.getElem_cons_succ, List.setIfInBounds_toArray, List.set_cons_zero, List.set_cons_succ]
              refine wpAnyH_done (by kernel_rfl) ?_ _
              go_wp2
              go_ret2
              exact HR.out
            · refine step_bld0 (by rfl) 35 5 (by rfl) bld0b ?_
              intro g0 wn E0 hg0n Kn
              have hg0 : w.heap.size ≤ g0 := Nat.le_trans G.size hg0n
              refine hK.out _ _ (Kn.cell hHeld (by simp)) (fun hHeld => ?_)
              clear hK K hg0n
              replace G := grown_trans G Kn
              replace c2w := Kn.cell c2w (by simp)
              clear Kn
              try simp only [Act.put, List.getElem_toArray, List.getElem_cons_zero, List.getElem_cons_succ, List.setIfInBounds_toArray, List.set_cons_zero, List.set_cons_succ]
              refine wpAnyH_ready (rs := [11, 14]) (by kernel_rfl) (by simp) (AllReadyH.cons rfl (fun K hK => ?_) (AllReadyH.cons rfl (fun K hK => ?_) AllReadyH.nil))
              · go_simp
                refine hK.out _ _ hHeld (fun hHeld => ?_)
                clear hK K
                try simp only [Act.put, List.getElem_toArray, List.getElem_cons_zero, List.getElem_cons_succ, List.setIfInBounds_toArray, List.set_cons_zero, List.set_cons_succ]
                refine wpAnyH_ready (rs := [14]) (by kernel_rfl) (by simp) (AllReadyH.cons rfl (fun K hK => ?_) AllReadyH.nil)
                refine step_append_cvo (by rfl) (.tmp 67) (.tmp 68) 35 (by rfl) 5 i1 _ 1 1 Try.underlying35 ji jz0 jz1 jz2 rfl (by decide) g0 _ 0 [] (by rfl) E0 a b.length ca (b.map bv) (by rfl) (by simp) HA.out.2.1 (HA.out.1.keptNone G).cv (bv_one b) (by have := HA.out.2.2; unfold maxLen; omega) (by have := HA.out.2.2; omega) (Nat.le_of_lt (E0.lt g0 rfl).2) ?_
                intro vj wm Oj Kj
                rw [Nat.zero_add, List.nil_append] at Oj
                have hSm := Kj.cell hHeld (own_cne E0 HQ.out.1.blk G (by decide))
                have c2m := Kj.cell c2w (own_cne E0 HQ.out.1.frs G (by decide))
                have Gm : w.grownBy wm none := grown_trans_new G Kj (fun x hx => by cases hx; exact hg0)
                refine hK.out _ _ hSm (fun hHeld => ?_)
                clear hK K hSm
                have O : Owns wm w.heap.size vj b := owns_mono Oj hg0
                obtain ⟨aj, cj, hvj, -⟩ := O.shape
                subst hvj
                replace G := Gm
                replace c2w := c2m
                clear Oj Kj E0 hg0 Gm c2m
                try simp only [Act.put, List.getElem_toArray, List.getElem_cons_zero, List.getElem_cons_succ, List.setIfInBounds_toArray, List.set_cons_zero, List.set_cons_succ]
                refine wpAnyH_ready (rs := [15]) (by kernel_rfl) (by simp) (AllReadyH.cons rfl (fun K hK => ?_) AllReadyH.nil)
                refine step_litq (by rfl) 45 1 _ (by rfl) _ (by kernel_rfl) [.slice aj b.length cj] 35 (lbuild1 aj b.length cj) ?_
                intro ad3 wo C3 Ko
                refine hK.out _ _ (Ko.cell hHeld (by simp)) (fun hHeld => ?_)
                clear hK K
                replace G := grown_trans G Ko
                replace c2w := Ko.cell c2w (by simp)
                replace O := owns_keptNone O Ko
                clear Ko
                try simp only [Act.put, List.getElem_toArray, List.getElem_cons_zero, List.getElem_cons_succ, List.setIfInBounds_toArray, List.set_cons_zero, List.set_cons_succ]
                generalize wo = w3 at *
                have R3 : ORow w3 base 35 (.slice ao c.fs.length cap) c.row := by
                  have := (HQ.out.1.hl.row c hcm).keptNone G
                  rw [HC.out.2.2] at this
                  exact this
                refine wpAnyH_ready (rs := [16]) (by kernel_rfl) (by simp) (AllReadyH.cons rfl (fun K hK => ?_) AllReadyH.nil)
                refine step_append_orow (by rfl) (.tmp 66) (.tmp 70) 45 (by rfl) 35 i0 _ 24 Try.underlying45 hi hz0 hz1 hz2 rfl base _ c.row (by rfl) R3 ad3 1 (.slice aj b.length cj) (by rfl) C3 rfl (by have := HC.out.1; have := HC.out.2.1; rw [hrl]; unfold maxLen; omega) (by have := HC.out.1; have := HC.out.2.1; rw [hrl]; omega) (Nat.le_trans HQ.out.1.lo.2.2.2.2 G.size) ?_
                intro v4 w4 R4 G4 B4
                obtain ⟨a4, l4, hv4⟩ := R4.len
                have hlr : (c.row ++ [Value.slice aj b.length cj]).length = c.fs.length + 1 := by simp [hrl]
                rw [hlr] at hv4
                subst hv4
                obtain ⟨HR0, QB4, QG4⟩ := rput_end HQ.out.1 HQ.out.2.1 HQ.out.2.2 HC.out.1 HC.out.2.1 HC.out.2.2 G O R4 G4 B4
                have HR : Hid (PutR w base q (k : Int) b (.returned (.tuple #[.bool true, .int .i64 0])) (w4.setCell ⟨q.gf, k, none⟩ (.slice a4 (c.fs.length + 1) l4))) := HR0
                have c2' : w4.cell? ⟨q.gf, k, none⟩ = some (.slice ao c.fs.length cap) := by
                  have := HQ.out.1.heldc HQ.out.2.1
                  rw [HQ.out.1.frs.cell, ← QB4.cell, HC.out.2.2] at this
                  exact this
                have f2' := QB4.free k
                have hS4 : w4.cell? ⟨q.g, 1, none⟩ = some q.fv := QG4.cell 1
                have hS5 : (w4.setCell ⟨q.gf, k, none⟩ (.slice a4 (c.fs.length + 1) l4)).cell? ⟨q.g, 1, none⟩ = some q.fv := (grown_set1 w4 ⟨q.gf, k, none⟩ _).cell hS4 (by simpa using HQ.out.1.ne.2.1)
                clear HR0 QB4 QG4 R4 G4 B4 R3 O G C3 c2w
                refine hK.out _ _ hS4 (fun hHeld => ?_)
                clear hK K
                try simp only [Act.put, List.getElem_toArray, List.getElem_cons_zero, List.getElem_cons_succ, List.setIfInBounds_toArray, List.set_cons_zero, List.set_cons_succ]
                refine wpAnyH_take (i := 17) (v := .pointer (some ⟨q.gf, k, none⟩)) rfl (by kernel_rfl) (by kernel_rfl) (by kernel_rfl) (fun _ _ _ h => h) (Or.inl ⟨by rfl, fun W hW => ?_⟩) hHeld ?_
                · clear hW
                  go_simp
                try simp only [Act.put, List.getElem_toArray, List.getElem_cons_zero, List.getElem_cons_succ, List.setIfInBounds_toArray, List.set_cons_zero, List.set_cons_succ]
                refine wpAnyH_ready (rs := [18]) (by kernel_rfl) (by simp) (AllReadyH.cons rfl (fun K hK => ?_) AllReadyH.nil)
                go_simp
                refine hK.out _ _ hS5 (fun hHeld => ?_)
                clear hK K
                try simp only [Act.put, List.getElem_toArray, List.getElem_cons_zero, List.getElem_cons_succ, List.setIfInBounds_toArray, List.set_cons_zero, List.set_cons_succ]
                refine wpAnyH_done (by kernel_rfl) ?_ _
                go_wp2
                go_ret2
                exact HR.out
              · refine step_append_cvo (by rfl) (.tmp 67) (.tmp 68) 35 (by rfl) 5 i1 _ 1 1 Try.underlying35 ji jz0 jz1 jz2 rfl (by decide) g0 _ 0 [] (by rfl) E0 a b.length ca (b.map bv) (by rfl) (by simp) HA.out.2.1 (HA.out.1.keptNone G).cv (bv_one b) (by have := HA.out.2.2; unfold maxLen; omega) (by have := HA.out.2.2; omega) (Nat.le_of_lt (E0.lt g0 rfl).2) ?_
                intro vj wm Oj Kj
                rw [Nat.zero_add, List.nil_append] at Oj
                have hSm := Kj.cell hHeld (own_cne E0 HQ.out.1.blk G (by decide))
                have c2m := Kj.cell c2w (own_cne E0 HQ.out.1.frs G (by decide))
                have Gm : w.grownBy wm none := grown_trans_new G Kj (fun x hx => by cases hx; exact hg0)
                refine hK.out _ _ hSm (fun hHeld => ?_)
                clear hK K hSm
                have O : Owns wm w.heap.size vj b := owns_mono Oj hg0
                obtain ⟨aj, cj, hvj, -⟩ := O.shape
                subst hvj
                replace G := Gm
                replace c2w := c2m
                clear Oj Kj E0 hg0 Gm c2m
                try simp only [Act.put, List.getElem_toArray, List.getElem_cons_zero, List.getElem_cons_succ, List.setIfInBounds_toArray, List.set_cons_zero, List.set_cons_succ]
                refine wpAnyH_ready (rs := [11, 15]) (by kernel_rfl) (by simp) (AllReadyH.cons rfl (fun K hK => ?_) (AllReadyH.cons rfl (fun K hK => ?_) AllReadyH.nil))
                · go_simp
                  refine hK.out _ _ hHeld (fun hHeld => ?_)
                  clear hK K
                  try simp only [Act.put, List.getElem_toArray, List.getElem_cons_zero, List.getElem_cons_succ, List.setIfInBounds_toArray, List.set_cons_zero, List.set_cons_succ]
                  refine wpAnyH_ready (rs := [15]) (by kernel_rfl) (by simp) (AllReadyH.cons rfl (fun K hK => ?_) AllReadyH.nil)
                  refine step_litq (by rfl) 45 1 _ (by rfl) _ (by kernel_rfl) [.slice aj b.length cj] 35 (lbuild1 aj b.length cj) ?_
                  intro ad3 wo C3 Ko
                  refine hK.out _ _ (Ko.cell hHeld (by simp)) (fun hHeld => ?_)
                  clear hK K
                  replace G := grown_trans G Ko
                  replace c2w := Ko.cell c2w (by simp)
                  replace O := owns_keptNone O Ko
                  clear Ko
                  try simp only [Act.put, List.getElem_toArray, List.getElem_cons_zero, List.getElem_cons_succ, List.setIfInBounds_toArray, List.set_cons_zero, List.set_cons_succ]
                  generalize wo = w3 at *
                  have R3 : ORow w3 base 35 (.slice ao c.fs.length cap) c.row := by
                    have := (HQ.out.1.hl.row c hcm).keptNone G
                    rw [HC.out.2.2] at this
                    exact this
                  refine wpAnyH_ready (rs := [16]) (by kernel_rfl) (by simp) (AllReadyH.cons rfl (fun K hK => ?_) AllReadyH.nil)
                  refine step_append_orow (by rfl) (.tmp 66) (.tmp 70) 45 (by rfl) 35 i0 _ 24 Try.underlying45 hi hz0 hz1 hz2 rfl base _ c.row (by rfl) R3 ad3 1 (.slice aj b.length cj) (by rfl) C3 rfl (by have := HC.out.1; have := HC.out.2.1; rw [hrl]; unfold maxLen; omega) (by have := HC.out.1; have := HC.out.2.1; rw [hrl]; omega) (Nat.le_trans HQ.out.1.lo.2.2.2.2 G.size) ?_
                  intro v4 w4 R4 G4 B4
                  obtain ⟨a4, l4, hv4⟩ := R4.len
                  have hlr : (c.row ++ [Value.slice aj b.length cj]).length = c.fs.length + 1 := by simp [hrl]
                  rw [hlr] at hv4
                  subst hv4
                  obtain ⟨HR0, QB4, QG4⟩ := rput_end HQ.out.1 HQ.out.2.1 HQ.out.2.2 HC.out.1 HC.out.2.1 HC.out.2.2 G O R4 G4 B4
                  have HR : Hid (PutR w base q (k : Int) b (.returned (.tuple #[.bool true, .int .i64 0])) (w4.setCell ⟨q.gf, k, none⟩ (.slice a4 (c.fs.length + 1) l4))) := HR0
                  have c2' : w4.cell? ⟨q.gf, k, none⟩ = some (.slice ao c.fs.length cap) := by
                    have := HQ.out.1.heldc HQ.out.2.1
                    rw [HQ.out.1.frs.cell, ← QB4.cell, HC.out.2.2] at this
                    exact this
                  have f2' := QB4.free k
                  have hS4 : w4.cell? ⟨q.g, 1, none⟩ = some q.fv := QG4.cell 1
                  have hS5 : (w4.setCell ⟨q.gf, k, none⟩ (.slice a4 (c.fs.length + 1) l4)).cell? ⟨q.g, 1, none⟩ = some q.fv := (grown_set1 w4 ⟨q.gf, k, none⟩ _).cell hS4 (by simpa using HQ.out.1.ne.2.1)
                  clear HR0 QB4 QG4 R4 G4 B4 R3 O G C3 c2w
                  refine hK.out _ _ hS4 (fun hHeld => ?_)
                  clear hK K
                  try simp only [Act.put, List.getElem_toArray, List.getElem_cons_zero, List.getElem_cons_succ, List.setIfInBounds_toArray, List.set_cons_zero, List.set_cons_succ]
                  refine wpAnyH_take (i := 17) (v := .pointer (some ⟨q.gf, k, none⟩)) rfl (by kernel_rfl) (by kernel_rfl) (by kernel_rfl) (fun _ _ _ h => h) (Or.inl ⟨by rfl, fun W hW => ?_⟩) hHeld ?_
                  · clear hW
                    go_simp
                  try simp only [Act.put, List.getElem_toArray, List.getElem_cons_zero, List.getElem_cons_succ, List.setIfInBounds_toArray, List.set_cons_zero, List.set_cons_succ]
                  refine wpAnyH_ready (rs := [18]) (by kernel_rfl) (by simp) (AllReadyH.cons rfl (fun K hK => ?_) AllReadyH.nil)
                  go_simp
                  refine hK.out _ _ hS5 (fun hHeld => ?_)
                  clear hK K
                  try simp only [Act.put, List.getElem_toArray, List.getElem_cons_zero, List.getElem_cons_succ, List.setIfInBounds_toArray, List.set_cons_zero, List.set_cons_succ]
                  refine wpAnyH_done (by kernel_rfl) ?_ _
                  go_wp2
                  go_ret2
                  exact HR.out
                · refine step_litq (by rfl) 45 1 _ (by rfl) _ (by kernel_rfl) [.slice aj b.length cj] 35 (lbuild1 aj b.length cj) ?_
                  intro ad3 wo C3 Ko
                  refine hK.out _ _ (Ko.cell hHeld (by simp)) (fun hHeld => ?_)
                  clear hK K
                  replace G := grown_trans G Ko
                  replace c2w := Ko.cell c2w (by simp)
                  replace O := owns_keptNone O Ko
                  clear Ko
                  try simp only [Act.put, List.getElem_toArray, List.getElem_cons_zero, List.getElem_cons_succ, List.setIfInBounds_toArray, List.set_cons_zero, List.set_cons_succ]
                  refine wpAnyH_ready (rs := [11]) (by kernel_rfl) (by simp) (AllReadyH.cons rfl (fun K hK => ?_) AllReadyH.nil)
                  go_simp
                  refine hK.out _ _ hHeld (fun hHeld => ?_)
                  clear hK K
                  try simp only [Act.put, List.getElem_toArray, List.getElem_cons_zero, List.getElem_cons_succ, List.setIfInBounds_toArray, List.set_cons_zero, List.set_cons_succ]
                  generalize wo = w3 at *
                  have R3 : ORow w3 base 35 (.slice ao c.fs.length cap) c.row := by
                    have := (HQ.out.1.hl.row c hcm).keptNone G
                    rw [HC.out.2.2] at this
                    exact this
                  refine wpAnyH_ready (rs := [16]) (by kernel_rfl) (by simp) (AllReadyH.cons rfl (fun K hK => ?_) AllReadyH.nil)
                  refine step_append_orow (by rfl) (.tmp 66) (.tmp 70) 45 (by rfl) 35 i0 _ 24 Try.underlying45 hi hz0 hz1 hz2 rfl base _ c.row (by rfl) R3 ad3 1 (.slice aj b.length cj) (by rfl) C3 rfl (by have := HC.out.1; have := HC.out.2.1; rw [hrl]; unfold maxLen; omega) (by have := HC.out.1; have := HC.out.2.1; rw [hrl]; omega) (Nat.le_trans HQ.out.1.lo.2.2.2.2 G.size) ?_
                  intro v4 w4 R4 G4 B4
                  obtain ⟨a4, l4, hv4⟩ := R4.len
                  have hlr : (c.row ++ [Value.slice aj b.length cj]).length = c.fs.length + 1 := by simp [hrl]
                  rw [hlr] at hv4
                  subst hv4
                  obtain ⟨HR0, QB4, QG4⟩ := rput_end HQ.out.1 HQ.out.2.1 HQ.out.2.2 HC.out.1 HC.out.2.1 HC.out.2.2 G O R4 G4 B4
                  have HR : Hid (PutR w base q (k : Int) b (.returned (.tuple #[.bool true, .int .i64 0])) (w4.setCell ⟨q.gf, k, none⟩ (.slice a4 (c.fs.length + 1) l4))) := HR0
                  have c2' : w4.cell? ⟨q.gf, k, none⟩ = some (.slice ao c.fs.length cap) := by
                    have := HQ.out.1.heldc HQ.out.2.1
                    rw [HQ.out.1.frs.cell, ← QB4.cell, HC.out.2.2] at this
                    exact this
                  have f2' := QB4.free k
                  have hS4 : w4.cell? ⟨q.g, 1, none⟩ = some q.fv := QG4.cell 1
                  have hS5 : (w4.setCell ⟨q.gf, k, none⟩ (.slice a4 (c.fs.length + 1) l4)).cell? ⟨q.g, 1, none⟩ = some q.fv := (grown_set1 w4 ⟨q.gf, k, none⟩ _).cell hS4 (by simpa using HQ.out.1.ne.2.1)
                  clear HR0 QB4 QG4 R4 G4 B4 R3 O G C3 c2w
                  refine hK.out _ _ hS4 (fun hHeld => ?_)
                  clear hK K
                  try simp only [Act.put, List.getElem_toArray, List.getElem_cons_zero, List.getElem_cons_succ, List.setIfInBounds_toArray, List.set_cons_zero, List.set_cons_succ]
                  refine wpAnyH_take (i := 17) (v := .pointer (some ⟨q.gf, k, none⟩)) rfl (by kernel_rfl) (by kernel_rfl) (by kernel_rfl) (fun _ _ _ h => h) (Or.inl ⟨by rfl, fun W hW => ?_⟩) hHeld ?_
                  · clear hW
                    go_simp
                  try simp only [Act.put, List.getElem_toArray, List.getElem_cons_zero, List.getElem_cons_succ, List.setIfInBounds_toArray, List.set_cons_zero, List.set_cons_succ]
                  refine wpAnyH_ready (rs := [18]) (by kernel_rfl) (by simp) (AllReadyH.cons rfl (fun K hK => ?_) AllReadyH.nil)
                  go_simp
                  refine hK.out _ _ hS5 (fun hHeld => ?_)
                  clear hK K
                  try simp only [Act.put, List.getElem_toArray, List.getElem_cons_zero, List.getElem_cons_succ, List.setIfInBounds_toArray, List.set_cons_zero, List.set_cons_succ]
                  refine wpAnyH_done (by kernel_rfl) ?_ _
                  go_wp2
                  go_ret2
                  exact HR.out
        · have hg : decide (c.dep ≤ c.fs.length) = true := decide_eq_true (by omega)
          have hroom' : c.abs.room = false := by rw [hroom]; exact decide_eq_false hr
          have hput : c.abs.put b = ⟨c.dep, min (c.lost + 1) 4294967295, c.fs.map Fr.b⟩ := by
            unfold Qc.put
            rw [if_neg (by rw [hroom']; simp)]
            rfl
          have f0 := hq.lst.free k
          have m1 : min (c.lost + 1) 4294967295 ≤ 4294967295 := Nat.min_le_right _ _
          have HR : Hid (∀ w1, w.grownBy w1 none → PutR w base q (k : Int) b (.returned (.tuple #[.bool false, .int .i64 0])) (w1.setCell ⟨q.gl, k, none⟩ (.int .u32 ((min (c.lost + 1) 4294967295 : Nat) : Int)))) := fun w1 G1 =>
            putR_yes hkc hE hroom' (by rw [hput]; rfl) ((hq.keptNone G1).drop hkc _ m1) ((GW.non G1).set _ _ (.inl (.inr (.inr (.inr (.inl rfl)))))) (rq_foots hkc (fun y hy => .inl hy) (fun f hf => .inl hf))
          have HAD := fun W => refadd1_any c.lost W hdep.2.2
          have HNE : Hid (q.gl ≠ q.g) := Ne.symm hq.ne.2.2.1
          generalize min (c.lost + 1) 4294967295 = m at *
          clear hroom hr hdep hq hkc ha ha0 hx h1 h2 h3 hE hal hh hput hroom' m1 HA HQ
          go_enter Try.func33, Try.ntmps33
          go_upto_region 5 with fail
          go_upto_region 6 with (go_quiet (fail))
          all_goals
            refine wp_region_held_drew (S := fun W => W.cell? ⟨q.g, 2, none⟩ = some q.lv) (by kernel_rfl) (HS.out.2) (fun hHeld => ?_)
            refine wpAnyH_take (i := 0) (v := .pointer (some ⟨q.g, 0, none⟩)) rfl (by kernel_rfl) (by kernel_rfl) (by kernel_rfl) (fun _ _ _ h => h) (Or.inl ⟨by rfl, fun W hW => ?_⟩) hHeld ?_
            · clear hW
              go_simp
            try simp only [Act.put, List.getElem_toArray, List.getElem_cons_zero, List.setIfInBounds_toArray, List.set_cons_zero, List.set_cons_succ]
            refine wpAnyH_take (i := 1) (v := .pointer (some ⟨q.g, 0, none⟩)) rfl (by kernel_rfl) (by kernel_rfl) (by kernel_rfl) (fun _ _ _ h => h) (Or.inl ⟨by rfl, fun W hW => ?_⟩) hHeld ?_
            · clear hW
              go_simp
            try simp only [Act.put, List.getElem_toArray, List.getElem_cons_zero, List.getElem_cons_succ, List.setIfInBounds_toArray, List.set_cons_zero, List.set_cons_succ]
            refine wpAnyH_take (i := 2) (v := .pointer (some ⟨q.g, 2, none⟩)) rfl (by kernel_rfl) (by kernel_rfl) (by kernel_rfl) (fun _ _ _ h => h) (Or.inl ⟨by rfl, fun W hW => ?_⟩) hHeld ?_
            · clear hW
              go_simp
            try simp only [Act.put, List.getElem_toArray, List.getElem_cons_zero, List.getElem_cons_succ, List.setIfInBounds_toArray, List.set_cons_zero, List.set_cons_succ]
            refine wpAnyH_take (i := 3) (v := .slice (some ⟨q.gl, 0, none⟩) q.cs.length q.cs.length) rfl (by kernel_rfl) (by kernel_rfl) (by kernel_rfl) (fun _ _ _ h => h) (Or.inl ⟨by rfl, fun W hW => ?_⟩) hHeld ?_
            · have hx : W.cell? ⟨q.g, 2, none⟩ = some (.slice (some ⟨q.gl, 0, none⟩) q.cs.length q.cs.length) := hW
              clear hW
              go_simp
            try simp only [Act.put, List.getElem_toArray, List.getElem_cons_zero, List.getElem_cons_succ, List.setIfInBounds_toArray, List.set_cons_zero, List.set_cons_succ]
            refine wpAnyH_take (i := 4) (v := .int .i64 (k : Int)) rfl (by kernel_rfl) (by kernel_rfl) (by kernel_rfl) (fun _ _ _ h => h) (Or.inl ⟨by rfl, fun W hW => ?_⟩) hHeld ?_
            · clear hW
              go_simp
            try simp only [Act.put, List.getElem_toArray, List.getElem_cons_zero, List.getElem_cons_succ, List.setIfInBounds_toArray, List.set_cons_zero, List.set_cons_succ]
            refine wpAnyH_take (i := 5) (v := .pointer (some ⟨q.g, 0, none⟩)) rfl (by kernel_rfl) (by kernel_rfl) (by kernel_rfl) (fun _ _ _ h => h) (Or.inl ⟨by rfl, fun W hW => ?_⟩) hHeld ?_
            · clear hW
              go_simp
            try simp only [Act.put, List.getElem_toArray, List.getElem_cons_zero, List.getElem_cons_succ, List.setIfInBounds_toArray, List.set_cons_zero, List.set_cons_succ]
            refine wpAnyH_take (i := 6) (v := .pointer (some ⟨q.g, 0, none⟩)) rfl (by kernel_rfl) (by kernel_rfl) (by kernel_rfl) (fun _ _ _ h => h) (Or.inl ⟨by rfl, fun W hW => ?_⟩) hHeld ?_
            · clear hW
              go_simp
            try simp only [Act.put, List.getElem_toArray, List.getElem_cons_zero, List.getElem_cons_succ, List.setIfInBounds_toArray, List.set_cons_zero, List.set_cons_succ]
            refine wpAnyH_take (i := 7) (v := .pointer (some ⟨q.g, 2, none⟩)) rfl (by kernel_rfl) (by kernel_rfl) (by kernel_rfl) (fun _ _ _ h => h) (Or.inl ⟨by rfl, fun W hW => ?_⟩) hHeld ?_
            · clear hW
              go_simp
            try simp only [Act.put, List.getElem_toArray, List.getElem_cons_zero, List.getElem_cons_succ, List.setIfInBounds_toArray, List.set_cons_zero, List.set_cons_succ]
            refine wpAnyH_take (i := 8) (v := .slice (some ⟨q.gl, 0, none⟩) q.cs.length q.cs.length) rfl (by kernel_rfl) (by kernel_rfl) (by kernel_rfl) (fun _ _ _ h => h) (Or.inl ⟨by rfl, fun W hW => ?_⟩) hHeld ?_
            · have hx : W.cell? ⟨q.g, 2, none⟩ = some (.slice (some ⟨q.gl, 0, none⟩) q.cs.length q.cs.length) := hW
              clear hW
              go_simp
            try simp only [Act.put, List.getElem_toArray, List.getElem_cons_zero, List.getElem_cons_succ, List.setIfInBounds_toArray, List.set_cons_zero, List.set_cons_succ]
            refine wpAnyH_take (i := 9) (v := .int .i64 (k : Int)) rfl (by kernel_rfl) (by kernel_rfl) (by kernel_rfl) (fun _ _ _ h => h) (Or.inl ⟨by rfl, fun W hW => ?_⟩) hHeld ?_
            · clear hW
              go_simp
            try simp only [Act.put, List.getElem_toArray, List.getElem_cons_zero, List.getElem_cons_succ, List.setIfInBounds_toArray, List.set_cons_zero, List.set_cons_succ]
            refine wpAnyH_take (i := 10) (v := .pointer (some ⟨q.gl, k, none⟩)) rfl (by kernel_rfl) (by kernel_rfl) (by kernel_rfl) (fun _ _ _ h => h) (Or.inl ⟨by rfl, fun W hW => ?_⟩) hHeld ?_
            · clear hW
              go_simp
            try simp only [Act.put, List.getElem_toArray, List.getElem_cons_zero, List.getElem_cons_succ, List.setIfInBounds_toArray, List.set_cons_zero, List.set_cons_succ]
            have HG : Hid (w.grownBy (w.drewN nq).drew none) := ⟨rfl, rfl, rfl, Nat.le_refl _, fun _ _ _ => rfl⟩
            have c0w : (w.drewN nq).drew.cell? ⟨q.gl, k, none⟩ = some (.int .u32 (c.lost : Int)) := c0
            have f0w : (w.drewN nq).drew.frozen? ⟨q.gl, k, none⟩ = false := f0
            generalize (w.drewN nq).drew = wc at *
            clear c0 c1 c2 x0 x1 x2 f0
            refine wpAnyH_ready (rs := [11]) (by kernel_rfl) (by simp) (AllReadyH.cons rfl (fun K hK => ?_) AllReadyH.nil)
            go_simp
            refine hK.out _ _ hHeld (fun hHeld => ?_)
            clear hK K
            try simp only [Act.put, List.getElem_toArray, List.getElem_cons_zero, List.getElem_cons_succ, List.setIfInBounds_toArray, List.set_cons_zero, List.set_cons_succ]
            refine wpAnyH_ready (rs := [12]) (by kernel_rfl) (by simp) (AllReadyH.cons rfl (fun K hK => ?_) AllReadyH.nil)
            go_simp
            refine (HAD wc).mono ?_
            rintro e w2 ⟨rfl, rfl⟩
            go_wp2_with fail
            refine hK.out _ _ hHeld (fun hHeld => ?_)
            clear hK K HAD
            try simp only [Act.put, List.getElem_toArray, List.getElem_cons_zero, List.getElem_cons_succ, List.setIfInBounds_toArray, List.set_cons_zero, List.set_cons_succ]
            refine wpAnyH_take (i := 13) (v := .pointer (some ⟨q.gl, k, none⟩)) rfl (by kernel_rfl) (by kernel_rfl) (by kernel_rfl) (fun _ _ _ h => h) (Or.inl ⟨by rfl, fun W hW => ?_⟩) hHeld ?_
            · clear hW
              go_simp
            try simp only [Act.put, List.getElem_toArray, List.getElem_cons_zero, List.getElem_cons_succ, List.setIfInBounds_toArray, List.set_cons_zero, List.set_cons_succ]
            refine wpAnyH_ready (rs := [14]) (by kernel_rfl) (by simp) (AllReadyH.cons rfl (fun K hK => ?_) AllReadyH.nil)
            go_simp
            refine hK.out _ _ ((grown_set1 wc ⟨q.gl, k, none⟩ _).cell hHeld (by simpa using Ne.symm HNE.out)) (fun hHeld => ?_)
            clear hK K
            try simp only [Act.put, List.getElem_toArray, List.getElem_cons_zero, List.getElem_cons_succ, List.setIfInBounds_toArray, List.set_cons_zero, List.set_cons_succ]
            refine wpAnyH_done (by kernel_rfl) ?_ _
            have HE : Hid _ := HR.out wc HG.out
            clear HR HG
            go_wp2
            go_ret2
            exact HE.out

end Go.Proofs.Ytlfjpbedjmnpaaa
