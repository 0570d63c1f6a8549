/-
  The document's own queue: Add, New.
-/
import Derived.Test.YtlfjpbedjmnpaaaQuI
import Derived.Test.YtlfjpbedjmnpaaaYld
import Derived.Test.YtlfjpbedjmnpaaaStep
namespace Go.Proofs.Ytlfjpbedjmnpaaa
open Go.RowKit
set_option maxRecDepth 100000

theorem refadd1_any (n : Nat) (w : World) (hn : n ≤ 4294967295) :
    Calls Try.prog 40 #[.int .u32 (n : Int), .int .u32 1] w fun e w' => e = .returned (.int .u32 ((min (n + 1) 4294967295 : Nat) : Int)) ∧ w = w' := by
  by_cases h : n = 4294967295
  · subst h
    go_enter Try.func40, Try.ntmps40
    go_wp2
    go_ret
    exact ⟨rfl, rfl⟩
  · have e : min (n + 1) 4294967295 = n + 1 := by omega
    rw [e]
    have h1 : ¬ ((4294967295 : Int) - (n : Int) < 1) := by omega
    have hlt : n + 1 < 4294967296 := by omega
    clear e h
    go_enter Try.func40, Try.ntmps40
    go_wp2
    go_ret
    exact ⟨ret_int (by omega), rfl⟩

/-- What New leaves. -/
def NewR (w : World) (zs : List Int) (e : Ending) (w' : World) : Prop :=
  w.grownBy w' none ∧ ((newB zs = false ∧ e = .returned (.tuple #[.pointer none, .int .i64 210])) ∨ (newB zs = true ∧ ∃ q : Rq, e = .returned (.tuple #[.pointer (some ⟨q.g, 0, none⟩), .int .i64 0]) ∧ RqAt w' w.heap.size q ∧ q.cs.map Cq.abs = newP zs))

theorem rqnew_end {w w4 : World} {zs : List Int} {gd cd gf gl : Nat} {vd : Value} (hb : newB zs = true) (hvd : vd = .slice (some ⟨gd, 0, none⟩) zs.length cd) (G : w.grownBy w4 none) (D : w4.ownsRow w.heap.size 3 1 vd zs.length (zs.map iv)) (F : QBk w4 gf 45 (List.replicate zs.length (.slice none 0 0)).toArray) (L : QBk w4 gl 60 (List.replicate zs.length (.int .u32 0)).toArray) (hf : w.heap.size ≤ gf) (hl : w.heap.size ≤ gl) :
    NewR w zs (.returned (.tuple #[.pointer (some ⟨w4.heap.size, 0, none⟩), .int .i64 0])) (w4.alloc (.cells #[vd, .slice (some ⟨gf, 0, none⟩) zs.length zs.length, .slice (some ⟨gl, 0, none⟩) zs.length zs.length] 56)) := by
  subst hvd
  have G2 := World.grownBy_alloc w4 (.cells #[.slice (some ⟨gd, 0, none⟩) zs.length cd, .slice (some ⟨gf, 0, none⟩) zs.length zs.length, .slice (some ⟨gl, 0, none⟩) zs.length zs.length] 56) none
  have B := QBk.alloc w4 56 #[.slice (some ⟨gd, 0, none⟩) zs.length cd, .slice (some ⟨gf, 0, none⟩) zs.length zs.length, .slice (some ⟨gl, 0, none⟩) zs.length zs.length]
  obtain ⟨h17, hall⟩ : (1 ≤ zs.length ∧ zs.length ≤ 17) ∧ ∀ z ∈ zs, 1 ≤ z ∧ z ≤ 1024 := by
    unfold newB at hb
    simp only [Bool.and_eq_true, decide_eq_true_eq, List.all_eq_true, depB] at hb
    exact hb
  refine ⟨grown_trans G G2, .inr ⟨hb, ⟨w4.heap.size, gd, cd, gf, gl, zs.map cNew⟩, rfl, ?_, by simp [newP, cNew, Cq.abs]⟩⟩
  have hlc : (zs.map cNew).length = zs.length := by simp
  have hrep : ∀ (v : Value) (f : Cq → Value), (∀ z, f (cNew z) = v) → (zs.map cNew).map f = List.replicate zs.length v := fun v f h => by
    rw [List.map_map]
    have : f ∘ cNew = fun _ => v := funext h
    rw [this, List.map_const']
  have hcl : zs.map cNew = (csNew zs zs.length) := by simp [csNew]
  rcases D.2 with ⟨hv, _⟩ | ⟨g', cap, cur, hv, hb', hg', hc', hm', hs', ht'⟩
  · cases hv
  · simp only [Value.slice.injEq, Option.some.injEq, Addr.mk.injEq] at hv
    obtain ⟨⟨rfl, -⟩, -, rfl⟩ := hv
    refine ⟨?_, ⟨cur, QBk.keptNone hg' G2, fun i hi => ?_⟩, ?_, ?_, ?_, ⟨G.size, hb', hf, hl, Nat.le_trans G.size G2.size⟩, ⟨by rw [hlc]; exact h17.2, by rw [hlc]; exact hc'⟩, fun c hc => ?_⟩
    · unfold Rq.dv Rq.fv Rq.lv
      rw [hlc]
      exact B
    · rw [hlc] at hi
      have e : dcells (zs.map cNew) = zs.map iv := by
        unfold dcells
        rw [List.map_map]
        refine List.map_congr_left fun z hz => ?_
        have := hall z hz
        show Value.int .i64 ((z.toNat : Nat) : Int) = iv z
        rw [Int.toNat_of_nonneg (by omega)]
        rfl
      rw [e]
      have := congrArg (fun l => l[i]?) ht'
      rw [List.getElem?_take, if_pos (by omega)] at this
      rw [← this]
      simp
    · rw [hrep (.slice none 0 0) Cq.h (fun _ => rfl)]
      exact F.keptNone G2
    · unfold lcells
      rw [hrep (.int .u32 0) _ (fun _ => rfl)]
      exact L.keptNone G2
    · refine ⟨fun c hc => ?_, fun c hc f hf => ?_, fun a => ?_, fun a => ?_⟩
      · obtain ⟨z, _, rfl⟩ := List.mem_map.1 hc
        exact ORow.nil _ _ _
      · obtain ⟨z, _, rfl⟩ := List.mem_map.1 hc
        cases hf
      · have : hblk (zs.map cNew) = [] := by
          unfold hblk
          rw [List.flatMap_eq_nil_iff]
          intro c hc
          obtain ⟨z, _, rfl⟩ := List.mem_map.1 hc
          rfl
        rw [this]
        simp
      · have : fblk (zs.map cNew) = [] := by
          unfold fblk
          rw [List.flatMap_eq_nil_iff]
          intro c hc
          obtain ⟨z, _, rfl⟩ := List.mem_map.1 hc
          rfl
        rw [this]
        simp
    · obtain ⟨z, hz, rfl⟩ := List.mem_map.1 hc
      have := hall z hz
      exact ⟨by show z.toNat ≤ 1024; omega, Nat.zero_le _, Nat.zero_le _⟩

theorem own_tne {w : World} {base e e' size n c g g' : Nat} {xs : List Value} {cs : Array Value} (h : w.ownsRow base e size (.slice (some ⟨g, 0, none⟩) n c) n xs) (k : QBk w g' e' cs) (he : e ≠ e') : g ≠ g' := by
  rcases h.2 with ⟨hv, _⟩ | ⟨g2, cap, cur, hv, hb, hg, _⟩
  · cases hv
  · simp only [Value.slice.injEq, Option.some.injEq, Addr.mk.injEq] at hv
    obtain ⟨⟨rfl, -⟩, -, -⟩ := hv
    exact QBk.tys (show QBk w g e cur from hg) k he

theorem infoSl2 : (Try.prog.info? 45).map (fun i => (i.zero, i.size, i.bytes)) = some (some (.slice none 0 0), 1, 24) := by kernel_rfl

theorem bldRq (a b c : Option Addr) (n m k x y z : Nat) (W : World) : (Instr.build 56 #[(0, .slice a n x), (1, .slice b m y), (2, .slice c k z)]).run Try.prog W = .ok (.agg #[.slice a n x, .slice b m y, .slice c k z]) W := by kernel_rfl

theorem made1 (z : Value) (h : z.cells = #[z]) (n : Nat) : (madeCells z.cells (n * 1)).toList = List.replicate n z := by
  rw [h, Nat.mul_one]
  exact toList_madeCells_one _ _

theorem step_make {P : Program} {ops : Array Oper} {o : Oper} {a : Act} {w : World} {K : Act → World → Prop} {Q : Exit → Act → World → Prop} {E : Prop}
    (hgd : o.guard = none) (l : Operand) (t : TypeId) (hop : o.op = Op.makeSlice t l l)
    (base : Nat) (e : TypeId) (i : TypeInfo) (z : Value) (size : Nat) (h1 : P.underlying t = some (.slice e)) (h2 : P.info? e = some i) (h3 : i.zero = some z) (h4 : i.size = size)
    (n : Nat) (hl : a.eval l = .int .i64 (n : Int)) (b2 : i.bytes * n ≤ 281474976710656) (b3 : n ≤ maxLen) (b4 : base ≤ w.heap.size)
    (hK : ∀ g w', w'.ownsRow base e size (.slice (some ⟨g, 0, none⟩) n n) n (madeCells z.cells (n * size)).toList → w.grownBy w' none → K (a.put o.dst (.slice (some ⟨g, 0, none⟩) n n)) w') :
    if Region.wanted o (yielded ops a.tmps) = true then Oper.wp P o a w K Q else E := by
  have hw : Region.wanted o (yielded ops a.tmps) = true := by simp [Region.wanted, hgd]
  rw [if_pos hw]
  obtain ⟨w', hrun, r1, r2⟩ := run_make_full (P := P) w base t e i z size h1 h2 h3 h4 .i64 .i64 n b2 b3 b4
  unfold Oper.wp
  simp [execOp, hop, hl, hrun, Result.andThen]
  exact hK _ _ r1 r2

theorem bld0 (W : World) : (Instr.buildSlice 22 0 #[]).run Try.prog W = .ok (.slice (some ⟨W.heap.size, 0, none⟩) 0 0) (W.alloc (.cells #[] 3)) := by kernel_rfl

theorem step_bld0 {ops : Array Oper} {o : Oper} {a : Act} {w : World} {K : Act → World → Prop} {Q : Exit → Act → World → Prop} {E : Prop}
    (hgd : o.guard = none) (t e : TypeId) (ho : o.op = .buildSlice t 0 #[]) (hr : ∀ W : World, (Instr.buildSlice t 0 #[]).run Try.prog W = .ok (.slice (some ⟨W.heap.size, 0, none⟩) 0 0) (W.alloc (.cells #[] e)))
    (hK : ∀ g w', w'.ownsRow g e 1 (.slice (some ⟨g, 0, none⟩) 0 0) 0 [] → w.heap.size ≤ g → w.grownBy w' none → K (a.put o.dst (.slice (some ⟨g, 0, none⟩) 0 0)) w') :
    if Region.wanted o (yielded ops a.tmps) = true then Oper.wp Try.prog o a w K Q else E := by
  have hw : Region.wanted o (yielded ops a.tmps) = true := by simp [Region.wanted, hgd]
  rw [if_pos hw]
  unfold Oper.wp execOp
  simp only [ho, Array.map_empty, Sem.run_bind, Sem.run_pure, Result.andThen_ok, hr]
  exact hK _ _ (World.ownsRow_made w #[] 0 (Nat.le_refl _) (Nat.zero_le _) rfl) (Nat.le_refl _) (World.grownBy_alloc _ _ _)

set_option maxHeartbeats 4000000 in
theorem rqnew_any (a : Option Addr) (ca : Nat) (zs : List Int) (w : World) (ha : CV w a (zs.map iv)) (ha0 : a = none → ca = 0) (hn : zs.length ≤ 35184372088832) :
    Calls Try.prog 7 #[.slice a zs.length ca] w (NewR w zs) := by
  by_cases h1 : zs.length < 1
  · have HR : Hid (∀ w', w' = w → NewR w zs (.returned (.tuple #[.pointer none, .int .i64 210])) w') := fun w' e => by
      subst e
      exact ⟨World.grownBy.refl _ _, .inl ⟨newB_short (.inl h1), rfl⟩⟩
    have h1' : (zs.length : Int) < 1 := by omega
    clear ha h1
    go_enter Try.func7, Try.ntmps7
    go_wp2
    go_ret2
    exact HR.out _ rfl
  · by_cases h2 : 17 < zs.length
    · have HR : Hid (∀ w', w' = w → NewR w zs (.returned (.tuple #[.pointer none, .int .i64 210])) w') := fun w' e => by
        subst e
        exact ⟨World.grownBy.refl _ _, .inl ⟨newB_short (.inr h2), rfl⟩⟩
      have h1' : ¬ (zs.length : Int) < 1 := by omega
      have h2' : (17 : Int) < zs.length := by omega
      clear ha h1 h2
      go_enter Try.func7, Try.ntmps7
      go_wp2
      go_ret2
      exact HR.out _ rfl
    · have h1' : ¬ (zs.length : Int) < 1 := by omega
      have h2' : ¬ (17 : Int) < zs.length := by omega
      have HA : Hid (CV w a (zs.map iv) ∧ (a = none → ca = 0) ∧ 1 ≤ zs.length ∧ zs.length ≤ 17) := ⟨ha, ha0, by omega, by omega⟩
      clear ha h1 h2 ha0
      go_enter Try.func7, Try.ntmps7
      go_wp2
      go_loopw [4] (fun i wr => ∃ k : Nat, k ≤ zs.length ∧ i = .int .i64 k ∧ SameW w wr ∧ (∀ j (hj : j < zs.length), j < k → 1 ≤ zs[j] ∧ zs[j] ≤ 1024)) (fun i _ => zs.length - (intOf i).toNat)
      case atStart => exact ⟨0, Nat.zero_le _, rfl, SameW.refl _, fun j _ hj => by omega⟩
      case round =>
        obtain ⟨k, hk, rfl, hw, HB0⟩ := hrel
        obtain rfl : w = wr := hw
        have HB : Hid (∀ j (hj : j < zs.length), j < k → 1 ≤ zs[j] ∧ zs[j] ≤ 1024) := HB0
        clear HB0
        by_cases hlt : k < zs.length
        · obtain ⟨b, o, rfl, hc⟩ := HA.out.1.ints hlt
          have hc0 := hc k hlt
          clear hc
          have hli : (k : Int) < (zs.length : Int) := by omega
          by_cases hb1 : zs[k] < 1
          · have HR : Hid (NewR w zs (.returned (.tuple #[.pointer none, .int .i64 210])) w) := ⟨World.grownBy.refl _ _, .inl ⟨newB_bad hlt (.inl hb1), rfl⟩⟩
            clear HB
            generalize zs[k] = z at *
            go_wp2
            go_ret2
            exact HR.out
          · by_cases hb2 : 1024 < zs[k]
            · have HR : Hid (NewR w zs (.returned (.tuple #[.pointer none, .int .i64 210])) w) := ⟨World.grownBy.refl _ _, .inl ⟨newB_bad hlt (.inr hb2), rfl⟩⟩
              clear HB
              generalize zs[k] = z at *
              go_wp2
              go_ret2
              exact HR.out
            · have HB2 : Hid (∀ j (hj : j < zs.length), j < k + 1 → 1 ≤ zs[j] ∧ zs[j] ≤ 1024) := fun j hj hjk => by
                by_cases e : j = k
                · subst e
                  omega
                · exact HB.out j hj (by omega)
              clear HB
              generalize zs[k] = z at *
              go_wp2
              go_roundw
              case rel => exact ⟨k + 1, by omega, by go_num, SameW.refl _, HB2.out⟩
              case measure => simp [intOf]; omega
        · obtain rfl : k = zs.length := by omega
          have HN : Hid (newB zs = true) := newB_ok HA.out.2.2 (fun j hj => HB.out j hj hj)
          clear HB
          obtain ⟨b, o, hab, -⟩ := HA.out.1.ints (k := 0) (by have := HA.out.2.2.1; omega)
          subst hab
          obtain ⟨i0, hi, hz0, hz1, hz2⟩ := info_parts infoInt
          obtain ⟨i1, ji, jz0, jz1, jz2⟩ := info_parts infoSl2
          obtain ⟨i2, ki, kz0, kz1, kz2⟩ := info_parts infoU32
          go_upto_region 8 with fail
          refine wp_region_held_drew (S := fun _ => True) (by kernel_rfl) (trivial) (fun hHeld => ?_)
          refine wpAnyH_take (i := 1) (v := .slice (some ⟨b, o, none⟩) zs.length ca) rfl (by kernel_rfl) (by kernel_rfl) (by kernel_rfl) (fun _ _ _ h => h) (Or.inl ⟨by rfl, fun W hW => ?_⟩) hHeld ?_
          · clear hW
            go_simp
          try simp only [Act.put, List.getElem_toArray, List.getElem_cons_zero, List.getElem_cons_succ, List.setIfInBounds_toArray, List.set_cons_zero, List.set_cons_succ]
          refine wpAnyH_take (i := 3) (v := .slice (some ⟨b, o, none⟩) zs.length ca) rfl (by kernel_rfl) (by kernel_rfl) (by kernel_rfl) (fun _ _ _ h => h) (Or.inl ⟨by rfl, fun W hW => ?_⟩) hHeld ?_
          · clear hW
            go_simp
          try simp only [Act.put, List.getElem_toArray, List.getElem_cons_zero, List.getElem_cons_succ, List.setIfInBounds_toArray, List.set_cons_zero, List.set_cons_succ]
          refine wpAnyH_take (i := 4) (v := .int .i64 (zs.length : Int)) rfl (by kernel_rfl) (by kernel_rfl) (by kernel_rfl) (fun _ _ _ h => h) (Or.inl ⟨by rfl, fun W hW => ?_⟩) hHeld ?_
          · clear hW
            go_simp
          try simp only [Act.put, List.getElem_toArray, List.getElem_cons_zero, List.getElem_cons_succ, List.setIfInBounds_toArray, List.set_cons_zero, List.set_cons_succ]
          refine wpAnyH_take (i := 6) (v := .slice (some ⟨b, o, none⟩) zs.length ca) rfl (by kernel_rfl) (by kernel_rfl) (by kernel_rfl) (fun _ _ _ h => h) (Or.inl ⟨by rfl, fun W hW => ?_⟩) hHeld ?_
          · clear hW
            go_simp
          try simp only [Act.put, List.getElem_toArray, List.getElem_cons_zero, List.getElem_cons_succ, List.setIfInBounds_toArray, List.set_cons_zero, List.set_cons_succ]
          refine wpAnyH_take (i := 7) (v := .int .i64 (zs.length : Int)) rfl (by kernel_rfl) (by kernel_rfl) (by kernel_rfl) (fun _ _ _ h => h) (Or.inl ⟨by rfl, fun W hW => ?_⟩) hHeld ?_
          · clear hW
            go_simp
          try simp only [Act.put, List.getElem_toArray, List.getElem_cons_zero, List.getElem_cons_succ, List.setIfInBounds_toArray, List.set_cons_zero, List.set_cons_succ]
          have G : w.grownBy w.drew none := ⟨rfl, rfl, rfl, Nat.le_refl _, fun _ _ _ => rfl⟩
          generalize w.drew = wc at *
          refine wpAnyH_ready (rs := [0, 5, 8]) (by kernel_rfl) (by simp) (AllReadyH.cons rfl (fun K hK => ?_) (AllReadyH.cons rfl (fun K hK => ?_) (AllReadyH.cons rfl (fun K hK => ?_) AllReadyH.nil)))
          · refine step_bld0 (by rfl) 22 3 (by rfl) bld0 ?_
            intro g0 wn E0n hg0n Kn
            have hg0 : w.heap.size ≤ g0 := Nat.le_trans G.size hg0n
            replace G := grown_trans G Kn
            have E0 := E0n
            clear E0n hg0n
            refine hK.out _ _ trivial (fun hHeld => ?_)
            clear hK K hHeld
            try simp only [Act.put, List.getElem_toArray, List.getElem_cons_zero, List.setIfInBounds_toArray, List.set_cons_zero, List.set_cons_succ]
            refine wpAnyH_ready (rs := [2, 5, 8]) (by kernel_rfl) (by simp) (AllReadyH.cons rfl (fun K hK => ?_) (AllReadyH.cons rfl (fun K hK => ?_) (AllReadyH.cons rfl (fun K hK => ?_) AllReadyH.nil)))
            · refine step_append_cv (by rfl) (.tmp 31) (.tmp 32) 22 (by rfl) 3 i0 _ 1 8 Try.underlying22 hi hz0 hz1 hz2 rfl (by decide) g0 _ 0 [] (by rfl) E0 ⟨b, o, none⟩ zs.length ca (zs.map iv) (by rfl) (by simp) (HA.out.1.keptNone G) (by intro u hu; obtain ⟨z, _, rfl⟩ := List.mem_map.1 hu; rfl) (by have := HA.out.2.2.2; unfold maxLen; omega) (by have := HA.out.2.2.2; omega) (Nat.le_of_lt (E0.lt g0 rfl).2) ?_
              intro vd wn Dn Kn0
              rw [Nat.zero_add, List.nil_append] at Dn
              have Kn : w.grownBy wn none := grown_trans_new G Kn0 (fun x hx => by cases hx; exact hg0)
              clear G
              have G := Kn
              have D := owns_mono Dn hg0
              refine hK.out _ _ trivial (fun hHeld => ?_)
              clear hK K hHeld
              try simp only [Act.put, List.getElem_toArray, List.getElem_cons_zero, List.getElem_cons_succ, List.setIfInBounds_toArray, List.set_cons_zero, List.set_cons_succ]
              refine wpAnyH_ready (rs := [5, 8]) (by kernel_rfl) (by simp) (AllReadyH.cons rfl (fun K hK => ?_) (AllReadyH.cons rfl (fun K hK => ?_) AllReadyH.nil))
              · refine step_make (by rfl) (.tmp 35) 53 (by rfl) w.heap.size 45 i1 _ 1 Try.underlying53 ji jz0 jz1 zs.length (by rfl) (by have := HA.out.2.2.2; rw [jz2]; omega) (by have := HA.out.2.2.2; unfold maxLen; omega) G.size ?_
                intro gF wn On Kn
                rw [made1 _ rfl] at On
                have FF := QBk.ofRow On
                have hgF := (On.lt _ rfl).1
                replace G := grown_trans G Kn
                replace D := owns_keptNone D Kn
                clear On
                refine hK.out _ _ trivial (fun hHeld => ?_)
                clear hK K hHeld
                try simp only [Act.put, List.getElem_toArray, List.getElem_cons_zero, List.getElem_cons_succ, List.setIfInBounds_toArray, List.set_cons_zero, List.set_cons_succ]
                refine wpAnyH_ready (rs := [8]) (by kernel_rfl) (by simp) (AllReadyH.cons rfl (fun K hK => ?_) AllReadyH.nil)
                refine step_make (by rfl) (.tmp 38) 54 (by rfl) w.heap.size 60 i2 _ 1 Try.underlying54 ki kz0 kz1 zs.length (by rfl) (by have := HA.out.2.2.2; rw [kz2]; omega) (by have := HA.out.2.2.2; unfold maxLen; omega) G.size ?_
                intro gL wn On Kn
                rw [made1 _ rfl] at On
                have LL := QBk.ofRow On
                have hgL := (On.lt _ rfl).1
                replace G := grown_trans G Kn
                replace D := owns_keptNone D Kn
                replace FF := FF.keptNone Kn
                clear On
                refine hK.out _ _ trivial (fun hHeld => ?_)
                clear hK K hHeld
                try simp only [Act.put, List.getElem_toArray, List.getElem_cons_zero, List.getElem_cons_succ, List.setIfInBounds_toArray, List.set_cons_zero, List.set_cons_succ]
                obtain ⟨gd, cd, hvd, -⟩ := owns_head D (by have := HA.out.2.2.1; omega)
                have HE := rqnew_end HN.out hvd G D FF LL hgF hgL
                subst hvd
                refine wpAnyH_take (i := 9) (v := .agg #[.slice (some ⟨gd, 0, none⟩) zs.length cd, .slice (some ⟨gF, 0, none⟩) zs.length zs.length, .slice (some ⟨gL, 0, none⟩) zs.length zs.length]) rfl (by kernel_rfl) (by kernel_rfl) (by kernel_rfl) (fun _ _ _ h => h) (yieldsIf_bld (by rfl) 56 _ (by rfl) _ (by kernel_rfl) (.agg #[.slice (some ⟨gd, 0, none⟩) zs.length cd, .slice (some ⟨gF, 0, none⟩) zs.length zs.length, .slice (some ⟨gL, 0, none⟩) zs.length zs.length]) (fun W => bldRq _ _ _ _ _ _ _ _ _ W)) trivial ?_
                try simp only [Act.put, List.getElem_toArray, List.getElem_cons_zero, List.getElem_cons_succ, List.setIfInBounds_toArray, List.set_cons_zero, List.set_cons_succ]
                have HR : Hid _ := HE
                clear HE D FF LL G hgF hgL
                refine wpAnyH_ready (rs := [10]) (by kernel_rfl) (by simp) (AllReadyH.cons rfl (fun K hK => ?_) AllReadyH.nil)
                go_simp
                refine hK.out _ _ trivial (fun hHeld => ?_)
                clear hK K hHeld
                try simp only [Act.put, List.getElem_toArray, List.getElem_cons_zero, List.getElem_cons_succ, List.setIfInBounds_toArray, List.set_cons_zero, List.set_cons_succ]
                refine wpAnyH_take (i := 11) (v := .pointer (some ⟨wn.heap.size, 0, none⟩)) rfl (by kernel_rfl) (by kernel_rfl) (by kernel_rfl) (fun _ _ _ h => h) (Or.inl ⟨by rfl, fun W hW => ?_⟩) hHeld ?_
                · clear hW
                  go_simp
                try simp only [Act.put, List.getElem_toArray, List.getElem_cons_zero, List.getElem_cons_succ, List.setIfInBounds_toArray, List.set_cons_zero, List.set_cons_succ]
                refine wpAnyH_take (i := 12) (v := .int .i64 0) rfl (by kernel_rfl) (by kernel_rfl) (by kernel_rfl) (fun _ _ _ h => h) (Or.inl ⟨by rfl, fun W hW => ?_⟩) hHeld ?_
                · clear hW
                  go_simp
                try simp only [Act.put, List.getElem_toArray, List.getElem_cons_zero, List.getElem_cons_succ, List.setIfInBounds_toArray, List.set_cons_zero, List.set_cons_succ]
                refine wpAnyH_done (by kernel_rfl) ?_ _
                go_wp2
                go_ret2
                exact HR.out
              · refine step_make (by rfl) (.tmp 38) 54 (by rfl) w.heap.size 60 i2 _ 1 Try.underlying54 ki kz0 kz1 zs.length (by rfl) (by have := HA.out.2.2.2; rw [kz2]; omega) (by have := HA.out.2.2.2; unfold maxLen; omega) G.size ?_
                intro gL wn On Kn
                rw [made1 _ rfl] at On
                have LL := QBk.ofRow On
                have hgL := (On.lt _ rfl).1
                replace G := grown_trans G Kn
                replace D := owns_keptNone D Kn
                clear On
                refine hK.out _ _ trivial (fun hHeld => ?_)
                clear hK K hHeld
                try simp only [Act.put, List.getElem_toArray, List.getElem_cons_zero, List.getElem_cons_succ, List.setIfInBounds_toArray, List.set_cons_zero, List.set_cons_succ]
                refine wpAnyH_ready (rs := [5]) (by kernel_rfl) (by simp) (AllReadyH.cons rfl (fun K hK => ?_) AllReadyH.nil)
                refine step_make (by rfl) (.tmp 35) 53 (by rfl) w.heap.size 45 i1 _ 1 Try.underlying53 ji jz0 jz1 zs.length (by rfl) (by have := HA.out.2.2.2; rw [jz2]; omega) (by have := HA.out.2.2.2; unfold maxLen; omega) G.size ?_
                intro gF wn On Kn
                rw [made1 _ rfl] at On
                have FF := QBk.ofRow On
                have hgF := (On.lt _ rfl).1
                replace G := grown_trans G Kn
                replace D := owns_keptNone D Kn
                replace LL := LL.keptNone Kn
                clear On
                refine hK.out _ _ trivial (fun hHeld => ?_)
                clear hK K hHeld
                try simp only [Act.put, List.getElem_toArray, List.getElem_cons_zero, List.getElem_cons_succ, List.setIfInBounds_toArray, List.set_cons_zero, List.set_cons_succ]
                obtain ⟨gd, cd, hvd, -⟩ := owns_head D (by have := HA.out.2.2.1; omega)
                have HE := rqnew_end HN.out hvd G D FF LL hgF hgL
                subst hvd
                refine wpAnyH_take (i := 9) (v := .agg #[.slice (some ⟨gd, 0, none⟩) zs.length cd, .slice (some ⟨gF, 0, none⟩) zs.length zs.length, .slice (some ⟨gL, 0, none⟩) zs.length zs.length]) rfl (by kernel_rfl) (by kernel_rfl) (by kernel_rfl) (fun _ _ _ h => h) (yieldsIf_bld (by rfl) 56 _ (by rfl) _ (by kernel_rfl) (.agg #[.slice (some ⟨gd, 0, none⟩) zs.length cd, .slice (some ⟨gF, 0, none⟩) zs.length zs.length, .slice (some ⟨gL, 0, none⟩) zs.length zs.length]) (fun W => bldRq _ _ _ _ _ _ _ _ _ W)) trivial ?_
                try simp only [Act.put, List.getElem_toArray, List.getElem_cons_zero, List.getElem_cons_succ, List.setIfInBounds_toArray, List.set_cons_zero, List.set_cons_succ]
                have HR : Hid _ := HE
                clear HE D FF LL G hgF hgL
                refine wpAnyH_ready (rs := [10]) (by kernel_rfl) (by simp) (AllReadyH.cons rfl (fun K hK => ?_) AllReadyH.nil)
                go_simp
                refine hK.out _ _ trivial (fun hHeld => ?_)
                clear hK K hHeld
                try simp only [Act.put, List.getElem_toArray, List.getElem_cons_zero, List.getElem_cons_succ, List.setIfInBounds_toArray, List.set_cons_zero, List.set_cons_succ]
                refine wpAnyH_take (i := 11) (v := .pointer (some ⟨wn.heap.size, 0, none⟩)) rfl (by kernel_rfl) (by kernel_rfl) (by kernel_rfl) (fun _ _ _ h => h) (Or.inl ⟨by rfl, fun W hW => ?_⟩) hHeld ?_
                · clear hW
                  go_simp
                try simp only [Act.put, List.getElem_toArray, List.getElem_cons_zero, List.getElem_cons_succ, List.setIfInBounds_toArray, List.set_cons_zero, List.set_cons_succ]
                refine wpAnyH_take (i := 12) (v := .int .i64 0) rfl (by kernel_rfl) (by kernel_rfl) (by kernel_rfl) (fun _ _ _ h => h) (Or.inl ⟨by rfl, fun W hW => ?_⟩) hHeld ?_
                · clear hW
                  go_simp
                try simp only [Act.put, List.getElem_toArray, List.getElem_cons_zero, List.getElem_cons_succ, List.setIfInBounds_toArray, List.set_cons_zero, List.set_cons_succ]
                refine wpAnyH_done (by kernel_rfl) ?_ _
                go_wp2
                go_ret2
                exact HR.out
            · refine step_make (by rfl) (.tmp 35) 53 (by rfl) w.heap.size 45 i1 _ 1 Try.underlying53 ji jz0 jz1 zs.length (by rfl) (by have := HA.out.2.2.2; rw [jz2]; omega) (by have := HA.out.2.2.2; unfold maxLen; omega) G.size ?_
              intro gF wn On Kn
              rw [made1 _ rfl] at On
              have FF := QBk.ofRow On
              have hgF := (On.lt _ rfl).1
              replace G := grown_trans G Kn
              replace E0 := owns_keptNone E0 Kn
              clear On
              refine hK.out _ _ trivial (fun hHeld => ?_)
              clear hK K hHeld
              try simp only [Act.put, List.getElem_toArray, List.getElem_cons_zero, List.getElem_cons_succ, List.setIfInBounds_toArray, List.set_cons_zero, List.set_cons_succ]
              refine wpAnyH_ready (rs := [2, 8]) (by kernel_rfl) (by simp) (AllReadyH.cons rfl (fun K hK => ?_) (AllReadyH.cons rfl (fun K hK => ?_) AllReadyH.nil))
              · refine step_append_cv (by rfl) (.tmp 31) (.tmp 32) 22 (by rfl) 3 i0 _ 1 8 Try.underlying22 hi hz0 hz1 hz2 rfl (by decide) g0 _ 0 [] (by rfl) E0 ⟨b, o, none⟩ zs.length ca (zs.map iv) (by rfl) (by simp) (HA.out.1.keptNone G) (by intro u hu; obtain ⟨z, _, rfl⟩ := List.mem_map.1 hu; rfl) (by have := HA.out.2.2.2; unfold maxLen; omega) (by have := HA.out.2.2.2; omega) (Nat.le_of_lt (E0.lt g0 rfl).2) ?_
                intro vd wn Dn Kn0
                rw [Nat.zero_add, List.nil_append] at Dn
                have Kn : w.grownBy wn none := grown_trans_new G Kn0 (fun x hx => by cases hx; exact hg0)
                clear G
                have G := Kn
                have D := owns_mono Dn hg0
                replace FF := FF.kept Kn0 (fun e => own_tne E0 FF (by decide) (Option.some.inj e))
                refine hK.out _ _ trivial (fun hHeld => ?_)
                clear hK K hHeld
                try simp only [Act.put, List.getElem_toArray, List.getElem_cons_zero, List.getElem_cons_succ, List.setIfInBounds_toArray, List.set_cons_zero, List.set_cons_succ]
                refine wpAnyH_ready (rs := [8]) (by kernel_rfl) (by simp) (AllReadyH.cons rfl (fun K hK => ?_) AllReadyH.nil)
                refine step_make (by rfl) (.tmp 38) 54 (by rfl) w.heap.size 60 i2 _ 1 Try.underlying54 ki kz0 kz1 zs.length (by rfl) (by have := HA.out.2.2.2; rw [kz2]; omega) (by have := HA.out.2.2.2; unfold maxLen; omega) G.size ?_
                intro gL wn On Kn
                rw [made1 _ rfl] at On
                have LL := QBk.ofRow On
                have hgL := (On.lt _ rfl).1
                replace G := grown_trans G Kn
                replace D := owns_keptNone D Kn
                replace FF := FF.keptNone Kn
                clear On
                refine hK.out _ _ trivial (fun hHeld => ?_)
                clear hK K hHeld
                try simp only [Act.put, List.getElem_toArray, List.getElem_cons_zero, List.getElem_cons_succ, List.setIfInBounds_toArray, List.set_cons_zero, List.set_cons_succ]
                obtain ⟨gd, cd, hvd, -⟩ := owns_head D (by have := HA.out.2.2.1; omega)
                have HE := rqnew_end HN.out hvd G D FF LL hgF hgL
                subst hvd
                refine wpAnyH_take (i := 9) (v := .agg #[.slice (some ⟨gd, 0, none⟩) zs.length cd, .slice (some ⟨gF, 0, none⟩) zs.length zs.length, .slice (some ⟨gL, 0, none⟩) zs.length zs.length]) rfl (by kernel_rfl) (by kernel_rfl) (by kernel_rfl) (fun _ _ _ h => h) (yieldsIf_bld (by rfl) 56 _ (by rfl) _ (by kernel_rfl) (.agg #[.slice (some ⟨gd, 0, none⟩) zs.length cd, .slice (some ⟨gF, 0, none⟩) zs.length zs.length, .slice (some ⟨gL, 0, none⟩) zs.length zs.length]) (fun W => bldRq _ _ _ _ _ _ _ _ _ W)) trivial ?_
                try simp only [Act.put, List.getElem_toArray, List.getElem_cons_zero, List.getElem_cons_succ, List.setIfInBounds_toArray, List.set_cons_zero, List.set_cons_succ]
                have HR : Hid _ := HE
                clear HE D FF LL G hgF hgL
                refine wpAnyH_ready (rs := [10]) (by kernel_rfl) (by simp) (AllReadyH.cons rfl (fun K hK => ?_) AllReadyH.nil)
                go_simp
                refine hK.out _ _ trivial (fun hHeld => ?_)
                clear hK K hHeld
                try simp only [Act.put, List.getElem_toArray, List.getElem_cons_zero, List.getElem_cons_succ, List.setIfInBounds_toArray, List.set_cons_zero, List.set_cons_succ]
                refine wpAnyH_take (i := 11) (v := .pointer (some ⟨wn.heap.size, 0, none⟩)) rfl (by kernel_rfl) (by kernel_rfl) (by kernel_rfl) (fun _ _ _ h => h) (Or.inl ⟨by rfl, fun W hW => ?_⟩) hHeld ?_
                · clear hW
                  go_simp
                try simp only [Act.put, List.getElem_toArray, List.getElem_cons_zero, List.getElem_cons_succ, List.setIfInBounds_toArray, List.set_cons_zero, List.set_cons_succ]
                refine wpAnyH_take (i := 12) (v := .int .i64 0) rfl (by kernel_rfl) (by kernel_rfl) (by kernel_rfl) (fun _ _ _ h => h) (Or.inl ⟨by rfl, fun W hW => ?_⟩) hHeld ?_
                · clear hW
                  go_simp
                try simp only [Act.put, List.getElem_toArray, List.getElem_cons_zero, List.getElem_cons_succ, List.setIfInBounds_toArray, List.set_cons_zero, List.set_cons_succ]
                refine wpAnyH_done (by kernel_rfl) ?_ _
                go_wp2
                go_ret2
                exact HR.out
              · refine step_make (by rfl) (.tmp 38) 54 (by rfl) w.heap.size 60 i2 _ 1 Try.underlying54 ki kz0 kz1 zs.length (by rfl) (by have := HA.out.2.2.2; rw [kz2]; omega) (by have := HA.out.2.2.2; unfold maxLen; omega) G.size ?_
                intro gL wn On Kn
                rw [made1 _ rfl] at On
                have LL := QBk.ofRow On
                have hgL := (On.lt _ rfl).1
                replace G := grown_trans G Kn
                replace E0 := owns_keptNone E0 Kn
                replace FF := FF.keptNone Kn
                clear On
                refine hK.out _ _ trivial (fun hHeld => ?_)
                clear hK K hHeld
                try simp only [Act.put, List.getElem_toArray, List.getElem_cons_zero, List.getElem_cons_succ, List.setIfInBounds_toArray, List.set_cons_zero, List.set_cons_succ]
                refine wpAnyH_ready (rs := [2]) (by kernel_rfl) (by simp) (AllReadyH.cons rfl (fun K hK => ?_) AllReadyH.nil)
                refine step_append_cv (by rfl) (.tmp 31) (.tmp 32) 22 (by rfl) 3 i0 _ 1 8 Try.underlying22 hi hz0 hz1 hz2 rfl (by decide) g0 _ 0 [] (by rfl) E0 ⟨b, o, none⟩ zs.length ca (zs.map iv) (by rfl) (by simp) (HA.out.1.keptNone G) (by intro u hu; obtain ⟨z, _, rfl⟩ := List.mem_map.1 hu; rfl) (by have := HA.out.2.2.2; unfold maxLen; omega) (by have := HA.out.2.2.2; omega) (Nat.le_of_lt (E0.lt g0 rfl).2) ?_
                intro vd wn Dn Kn0
                rw [Nat.zero_add, List.nil_append] at Dn
                have Kn : w.grownBy wn none := grown_trans_new G Kn0 (fun x hx => by cases hx; exact hg0)
                clear G
                have G := Kn
                have D := owns_mono Dn hg0
                replace FF := FF.kept Kn0 (fun e => own_tne E0 FF (by decide) (Option.some.inj e))
                replace LL := LL.kept Kn0 (fun e => own_tne E0 LL (by decide) (Option.some.inj e))
                refine hK.out _ _ trivial (fun hHeld => ?_)
                clear hK K hHeld
                try simp only [Act.put, List.getElem_toArray, List.getElem_cons_zero, List.getElem_cons_succ, List.setIfInBounds_toArray, List.set_cons_zero, List.set_cons_succ]
                obtain ⟨gd, cd, hvd, -⟩ := owns_head D (by have := HA.out.2.2.1; omega)
                have HE := rqnew_end HN.out hvd G D FF LL hgF hgL
                subst hvd
                refine wpAnyH_take (i := 9) (v := .agg #[.slice (some ⟨gd, 0, none⟩) zs.length cd, .slice (some ⟨gF, 0, none⟩) zs.length zs.length, .slice (some ⟨gL, 0, none⟩) zs.length zs.length]) rfl (by kernel_rfl) (by kernel_rfl) (by kernel_rfl) (fun _ _ _ h => h) (yieldsIf_bld (by rfl) 56 _ (by rfl) _ (by kernel_rfl) (.agg #[.slice (some ⟨gd, 0, none⟩) zs.length cd, .slice (some ⟨gF, 0, none⟩) zs.length zs.length, .slice (some ⟨gL, 0, none⟩) zs.length zs.length]) (fun W => bldRq _ _ _ _ _ _ _ _ _ W)) trivial ?_
                try simp only [Act.put, List.getElem_toArray, List.getElem_cons_zero, List.getElem_cons_succ, List.setIfInBounds_toArray, List.set_cons_zero, List.set_cons_succ]
                have HR : Hid _ := HE
                clear HE D FF LL G hgF hgL
                refine wpAnyH_ready (rs := [10]) (by kernel_rfl) (by simp) (AllReadyH.cons rfl (fun K hK => ?_) AllReadyH.nil)
                go_simp
                refine hK.out _ _ trivial (fun hHeld => ?_)
                clear hK K hHeld
                try simp only [Act.put, List.getElem_toArray, List.getElem_cons_zero, List.getElem_cons_succ, List.setIfInBounds_toArray, List.set_cons_zero, List.set_cons_succ]
                refine wpAnyH_take (i := 11) (v := .pointer (some ⟨wn.heap.size, 0, none⟩)) rfl (by kernel_rfl) (by kernel_rfl) (by kernel_rfl) (fun _ _ _ h => h) (Or.inl ⟨by rfl, fun W hW => ?_⟩) hHeld ?_
                · clear hW
                  go_simp
                try simp only [Act.put, List.getElem_toArray, List.getElem_cons_zero, List.getElem_cons_succ, List.setIfInBounds_toArray, List.set_cons_zero, List.set_cons_succ]
                refine wpAnyH_take (i := 12) (v := .int .i64 0) rfl (by kernel_rfl) (by kernel_rfl) (by kernel_rfl) (fun _ _ _ h => h) (Or.inl ⟨by rfl, fun W hW => ?_⟩) hHeld ?_
                · clear hW
                  go_simp
                try simp only [Act.put, List.getElem_toArray, List.getElem_cons_zero, List.getElem_cons_succ, List.setIfInBounds_toArray, List.set_cons_zero, List.set_cons_succ]
                refine wpAnyH_done (by kernel_rfl) ?_ _
                go_wp2
                go_ret2
                exact HR.out
            · refine step_make (by rfl) (.tmp 38) 54 (by rfl) w.heap.size 60 i2 _ 1 Try.underlying54 ki kz0 kz1 zs.length (by rfl) (by have := HA.out.2.2.2; rw [kz2]; omega) (by have := HA.out.2.2.2; unfold maxLen; omega) G.size ?_
              intro gL wn On Kn
              rw [made1 _ rfl] at On
              have LL := QBk.ofRow On
              have hgL := (On.lt _ rfl).1
              replace G := grown_trans G Kn
              replace E0 := owns_keptNone E0 Kn
              clear On
              refine hK.out _ _ trivial (fun hHeld => ?_)
              clear hK K hHeld
              try simp only [Act.put, List.getElem_toArray, List.getElem_cons_zero, List.getElem_cons_succ, List.setIfInBounds_toArray, List.set_cons_zero, List.set_cons_succ]
              refine wpAnyH_ready (rs := [2, 5]) (by kernel_rfl) (by simp) (AllReadyH.cons rfl (fun K hK => ?_) (AllReadyH.cons rfl (fun K hK => ?_) AllReadyH.nil))
              · refine step_append_cv (by rfl) (.tmp 31) (.tmp 32) 22 (by rfl) 3 i0 _ 1 8 Try.underlying22 hi hz0 hz1 hz2 rfl (by decide) g0 _ 0 [] (by rfl) E0 ⟨b, o, none⟩ zs.length ca (zs.map iv) (by rfl) (by simp) (HA.out.1.keptNone G) (by intro u hu; obtain ⟨z, _, rfl⟩ := List.mem_map.1 hu; rfl) (by have := HA.out.2.2.2; unfold maxLen; omega) (by have := HA.out.2.2.2; omega) (Nat.le_of_lt (E0.lt g0 rfl).2) ?_
                intro vd wn Dn Kn0
                rw [Nat.zero_add, List.nil_append] at Dn
                have Kn : w.grownBy wn none := grown_trans_new G Kn0 (fun x hx => by cases hx; exact hg0)
                clear G
                have G := Kn
                have D := owns_mono Dn hg0
                replace LL := LL.kept Kn0 (fun e => own_tne E0 LL (by decide) (Option.some.inj e))
                refine hK.out _ _ trivial (fun hHeld => ?_)
                clear hK K hHeld
                try simp only [Act.put, List.getElem_toArray, List.getElem_cons_zero, List.getElem_cons_succ, List.setIfInBounds_toArray, List.set_cons_zero, List.set_cons_succ]
                refine wpAnyH_ready (rs := [5]) (by kernel_rfl) (by simp) (AllReadyH.cons rfl (fun K hK => ?_) AllReadyH.nil)
                refine step_make (by rfl) (.tmp 35) 53 (by rfl) w.heap.size 45 i1 _ 1 Try.underlying53 ji jz0 jz1 zs.length (by rfl) (by have := HA.out.2.2.2; rw [jz2]; omega) (by have := HA.out.2.2.2; unfold maxLen; omega) G.size ?_
                intro gF wn On Kn
                rw [made1 _ rfl] at On
                have FF := QBk.ofRow On
                have hgF := (On.lt _ rfl).1
                replace G := grown_trans G Kn
                replace D := owns_keptNone D Kn
                replace LL := LL.keptNone Kn
                clear On
                refine hK.out _ _ trivial (fun hHeld => ?_)
                clear hK K hHeld
                try simp only [Act.put, List.getElem_toArray, List.getElem_cons_zero, List.getElem_cons_succ, List.setIfInBounds_toArray, List.set_cons_zero, List.set_cons_succ]
                obtain ⟨gd, cd, hvd, -⟩ := owns_head D (by have := HA.out.2.2.1; omega)
                have HE := rqnew_end HN.out hvd G D FF LL hgF hgL
                subst hvd
                refine wpAnyH_take (i := 9) (v := .agg #[.slice (some ⟨gd, 0, none⟩) zs.length cd, .slice (some ⟨gF, 0, none⟩) zs.length zs.length, .slice (some ⟨gL, 0, none⟩) zs.length zs.length]) rfl (by kernel_rfl) (by kernel_rfl) (by kernel_rfl) (fun _ _ _ h => h) (yieldsIf_bld (by rfl) 56 _ (by rfl) _ (by kernel_rfl) (.agg #[.slice (some ⟨gd, 0, none⟩) zs.length cd, .slice (some ⟨gF, 0, none⟩) zs.length zs.length, .slice (some ⟨gL, 0, none⟩) zs.length zs.length]) (fun W => bldRq _ _ _ _ _ _ _ _ _ W)) trivial ?_
                try simp only [Act.put, List.getElem_toArray, List.getElem_cons_zero, List.getElem_cons_succ, List.setIfInBounds_toArray, List.set_cons_zero, List.set_cons_succ]
                have HR : Hid _ := HE
                clear HE D FF LL G hgF hgL
                refine wpAnyH_ready (rs := [10]) (by kernel_rfl) (by simp) (AllReadyH.cons rfl (fun K hK => ?_) AllReadyH.nil)
                go_simp
                refine hK.out _ _ trivial (fun hHeld => ?_)
                clear hK K hHeld
                try simp only [Act.put, List.getElem_toArray, List.getElem_cons_zero, List.getElem_cons_succ, List.setIfInBounds_toArray, List.set_cons_zero, List.set_cons_succ]
                refine wpAnyH_take (i := 11) (v := .pointer (some ⟨wn.heap.size, 0, none⟩)) rfl (by kernel_rfl) (by kernel_rfl) (by kernel_rfl) (fun _ _ _ h => h) (Or.inl ⟨by rfl, fun W hW => ?_⟩) hHeld ?_
                · clear hW
                  go_simp
                try simp only [Act.put, List.getElem_toArray, List.getElem_cons_zero, List.getElem_cons_succ, List.setIfInBounds_toArray, List.set_cons_zero, List.set_cons_succ]
                refine wpAnyH_take (i := 12) (v := .int .i64 0) rfl (by kernel_rfl) (by kernel_rfl) (by kernel_rfl) (fun _ _ _ h => h) (Or.inl ⟨by rfl, fun W hW => ?_⟩) hHeld ?_
                · clear hW
                  go_simp
                try simp only [Act.put, List.getElem_toArray, List.getElem_cons_zero, List.getElem_cons_succ, List.setIfInBounds_toArray, List.set_cons_zero, List.set_cons_succ]
                refine wpAnyH_done (by kernel_rfl) ?_ _
                go_wp2
                go_ret2
                exact HR.out
              · refine step_make (by rfl) (.tmp 35) 53 (by rfl) w.heap.size 45 i1 _ 1 Try.underlying53 ji jz0 jz1 zs.length (by rfl) (by have := HA.out.2.2.2; rw [jz2]; omega) (by have := HA.out.2.2.2; unfold maxLen; omega) G.size ?_
                intro gF wn On Kn
                rw [made1 _ rfl] at On
                have FF := QBk.ofRow On
                have hgF := (On.lt _ rfl).1
                replace G := grown_trans G Kn
                replace E0 := owns_keptNone E0 Kn
                replace LL := LL.keptNone Kn
                clear On
                refine hK.out _ _ trivial (fun hHeld => ?_)
                clear hK K hHeld
                try simp only [Act.put, List.getElem_toArray, List.getElem_cons_zero, List.getElem_cons_succ, List.setIfInBounds_toArray, List.set_cons_zero, List.set_cons_succ]
                refine wpAnyH_ready (rs := [2]) (by kernel_rfl) (by simp) (AllReadyH.cons rfl (fun K hK => ?_) AllReadyH.nil)
                refine step_append_cv (by rfl) (.tmp 31) (.tmp 32) 22 (by rfl) 3 i0 _ 1 8 Try.underlying22 hi hz0 hz1 hz2 rfl (by decide) g0 _ 0 [] (by rfl) E0 ⟨b, o, none⟩ zs.length ca (zs.map iv) (by rfl) (by simp) (HA.out.1.keptNone G) (by intro u hu; obtain ⟨z, _, rfl⟩ := List.mem_map.1 hu; rfl) (by have := HA.out.2.2.2; unfold maxLen; omega) (by have := HA.out.2.2.2; omega) (Nat.le_of_lt (E0.lt g0 rfl).2) ?_
                intro vd wn Dn Kn0
                rw [Nat.zero_add, List.nil_append] at Dn
                have Kn : w.grownBy wn none := grown_trans_new G Kn0 (fun x hx => by cases hx; exact hg0)
                clear G
                have G := Kn
                have D := owns_mono Dn hg0
                replace FF := FF.kept Kn0 (fun e => own_tne E0 FF (by decide) (Option.some.inj e))
                replace LL := LL.kept Kn0 (fun e => own_tne E0 LL (by decide) (Option.some.inj e))
                refine hK.out _ _ trivial (fun hHeld => ?_)
                clear hK K hHeld
                try simp only [Act.put, List.getElem_toArray, List.getElem_cons_zero, List.getElem_cons_succ, List.setIfInBounds_toArray, List.set_cons_zero, List.set_cons_succ]
                obtain ⟨gd, cd, hvd, -⟩ := owns_head D (by have := HA.out.2.2.1; omega)
                have HE := rqnew_end HN.out hvd G D FF LL hgF hgL
                subst hvd
                refine wpAnyH_take (i := 9) (v := .agg #[.slice (some ⟨gd, 0, none⟩) zs.length cd, .slice (some ⟨gF, 0, none⟩) zs.length zs.length, .slice (some ⟨gL, 0, none⟩) zs.length zs.length]) rfl (by kernel_rfl) (by kernel_rfl) (by kernel_rfl) (fun _ _ _ h => h) (yieldsIf_bld (by rfl) 56 _ (by rfl) _ (by kernel_rfl) (.agg #[.slice (some ⟨gd, 0, none⟩) zs.length cd, .slice (some ⟨gF, 0, none⟩) zs.length zs.length, .slice (some ⟨gL, 0, none⟩) zs.length zs.length]) (fun W => bldRq _ _ _ _ _ _ _ _ _ W)) trivial ?_
                try simp only [Act.put, List.getElem_toArray, List.getElem_cons_zero, List.getElem_cons_succ, List.setIfInBounds_toArray, List.set_cons_zero, List.set_cons_succ]
                have HR : Hid _ := HE
                clear HE D FF LL G hgF hgL
                refine wpAnyH_ready (rs := [10]) (by kernel_rfl) (by simp) (AllReadyH.cons rfl (fun K hK => ?_) AllReadyH.nil)
                go_simp
                refine hK.out _ _ trivial (fun hHeld => ?_)
                clear hK K hHeld
                try simp only [Act.put, List.getElem_toArray, List.getElem_cons_zero, List.getElem_cons_succ, List.setIfInBounds_toArray, List.set_cons_zero, List.set_cons_succ]
                refine wpAnyH_take (i := 11) (v := .pointer (some ⟨wn.heap.size, 0, none⟩)) rfl (by kernel_rfl) (by kernel_rfl) (by kernel_rfl) (fun _ _ _ h => h) (Or.inl ⟨by rfl, fun W hW => ?_⟩) hHeld ?_
                · clear hW
                  go_simp
                try simp only [Act.put, List.getElem_toArray, List.getElem_cons_zero, List.getElem_cons_succ, List.setIfInBounds_toArray, List.set_cons_zero, List.set_cons_succ]
                refine wpAnyH_take (i := 12) (v := .int .i64 0) rfl (by kernel_rfl) (by kernel_rfl) (by kernel_rfl) (fun _ _ _ h => h) (Or.inl ⟨by rfl, fun W hW => ?_⟩) hHeld ?_
                · clear hW
                  go_simp
                try simp only [Act.put, List.getElem_toArray, List.getElem_cons_zero, List.getElem_cons_succ, List.setIfInBounds_toArray, List.set_cons_zero, List.set_cons_succ]
                refine wpAnyH_done (by kernel_rfl) ?_ _
                go_wp2
                go_ret2
                exact HR.out
          · refine step_make (by rfl) (.tmp 35) 53 (by rfl) w.heap.size 45 i1 _ 1 Try.underlying53 ji jz0 jz1 zs.length (by rfl) (by have := HA.out.2.2.2; rw [jz2]; omega) (by have := HA.out.2.2.2; unfold maxLen; omega) G.size ?_
            intro gF wn On Kn
            rw [made1 _ rfl] at On
            have FF := QBk.ofRow On
            have hgF := (On.lt _ rfl).1
            replace G := grown_trans G Kn
            clear On
            refine hK.out _ _ trivial (fun hHeld => ?_)
            clear hK K hHeld
            try simp only [Act.put, List.getElem_toArray, List.getElem_cons_zero, List.getElem_cons_succ, List.setIfInBounds_toArray, List.set_cons_zero, List.set_cons_succ]
            refine wpAnyH_ready (rs := [0, 8]) (by kernel_rfl) (by simp) (AllReadyH.cons rfl (fun K hK => ?_) (AllReadyH.cons rfl (fun K hK => ?_) AllReadyH.nil))
            · refine step_bld0 (by rfl) 22 3 (by rfl) bld0 ?_
              intro g0 wn E0n hg0n Kn
              have hg0 : w.heap.size ≤ g0 := Nat.le_trans G.size hg0n
              replace G := grown_trans G Kn
              replace FF := FF.keptNone Kn
              have E0 := E0n
              clear E0n hg0n
              refine hK.out _ _ trivial (fun hHeld => ?_)
              clear hK K hHeld
              try simp only [Act.put, List.getElem_toArray, List.getElem_cons_zero, List.setIfInBounds_toArray, List.set_cons_zero, List.set_cons_succ]
              refine wpAnyH_ready (rs := [2, 8]) (by kernel_rfl) (by simp) (AllReadyH.cons rfl (fun K hK => ?_) (AllReadyH.cons rfl (fun K hK => ?_) AllReadyH.nil))
              · refine step_append_cv (by rfl) (.tmp 31) (.tmp 32) 22 (by rfl) 3 i0 _ 1 8 Try.underlying22 hi hz0 hz1 hz2 rfl (by decide) g0 _ 0 [] (by rfl) E0 ⟨b, o, none⟩ zs.length ca (zs.map iv) (by rfl) (by simp) (HA.out.1.keptNone G) (by intro u hu; obtain ⟨z, _, rfl⟩ := List.mem_map.1 hu; rfl) (by have := HA.out.2.2.2; unfold maxLen; omega) (by have := HA.out.2.2.2; omega) (Nat.le_of_lt (E0.lt g0 rfl).2) ?_
                intro vd wn Dn Kn0
                rw [Nat.zero_add, List.nil_append] at Dn
                have Kn : w.grownBy wn none := grown_trans_new G Kn0 (fun x hx => by cases hx; exact hg0)
                clear G
                have G := Kn
                have D := owns_mono Dn hg0
                replace FF := FF.kept Kn0 (fun e => own_tne E0 FF (by decide) (Option.some.inj e))
                refine hK.out _ _ trivial (fun hHeld => ?_)
                clear hK K hHeld
                try simp only [Act.put, List.getElem_toArray, List.getElem_cons_zero, List.getElem_cons_succ, List.setIfInBounds_toArray, List.set_cons_zero, List.set_cons_succ]
                refine wpAnyH_ready (rs := [8]) (by kernel_rfl) (by simp) (AllReadyH.cons rfl (fun K hK => ?_) AllReadyH.nil)
                refine step_make (by rfl) (.tmp 38) 54 (by rfl) w.heap.size 60 i2 _ 1 Try.underlying54 ki kz0 kz1 zs.length (by rfl) (by have := HA.out.2.2.2; rw [kz2]; omega) (by have := HA.out.2.2.2; unfold maxLen; omega) G.size ?_
                intro gL wn On Kn
                rw [made1 _ rfl] at On
                have LL := QBk.ofRow On
                have hgL := (On.lt _ rfl).1
                replace G := grown_trans G Kn
                replace D := owns_keptNone D Kn
                replace FF := FF.keptNone Kn
                clear On
                refine hK.out _ _ trivial (fun hHeld => ?_)
                clear hK K hHeld
                try simp only [Act.put, List.getElem_toArray, List.getElem_cons_zero, List.getElem_cons_succ, List.setIfInBounds_toArray, List.set_cons_zero, List.set_cons_succ]
                obtain ⟨gd, cd, hvd, -⟩ := owns_head D (by have := HA.out.2.2.1; omega)
                have HE := rqnew_end HN.out hvd G D FF LL hgF hgL
                subst hvd
                refine wpAnyH_take (i := 9) (v := .agg #[.slice (some ⟨gd, 0, none⟩) zs.length cd, .slice (some ⟨gF, 0, none⟩) zs.length zs.length, .slice (some ⟨gL, 0, none⟩) zs.length zs.length]) rfl (by kernel_rfl) (by kernel_rfl) (by kernel_rfl) (fun _ _ _ h => h) (yieldsIf_bld (by rfl) 56 _ (by rfl) _ (by kernel_rfl) (.agg #[.slice (some ⟨gd, 0, none⟩) zs.length cd, .slice (some ⟨gF, 0, none⟩) zs.length zs.length, .slice (some ⟨gL, 0, none⟩) zs.length zs.length]) (fun W => bldRq _ _ _ _ _ _ _ _ _ W)) trivial ?_
                try simp only [Act.put, List.getElem_toArray, List.getElem_cons_zero, List.getElem_cons_succ, List.setIfInBounds_toArray, List.set_cons_zero, List.set_cons_succ]
                have HR : Hid _ := HE
                clear HE D FF LL G hgF hgL
                refine wpAnyH_ready (rs := [10]) (by kernel_rfl) (by simp) (AllReadyH.cons rfl (fun K hK => ?_) AllReadyH.nil)
                go_simp
                refine hK.out _ _ trivial (fun hHeld => ?_)
                clear hK K hHeld
                try simp only [Act.put, List.getElem_toArray, List.getElem_cons_zero, List.getElem_cons_succ, List.setIfInBounds_toArray, List.set_cons_zero, List.set_cons_succ]
                refine wpAnyH_take (i := 11) (v := .pointer (some ⟨wn.heap.size, 0, none⟩)) rfl (by kernel_rfl) (by kernel_rfl) (by kernel_rfl) (fun _ _ _ h => h) (Or.inl ⟨by rfl, fun W hW => ?_⟩) hHeld ?_
                · clear hW
                  go_simp
                try simp only [Act.put, List.getElem_toArray, List.getElem_cons_zero, List.getElem_cons_succ, List.setIfInBounds_toArray, List.set_cons_zero, List.set_cons_succ]
                refine wpAnyH_take (i := 12) (v := .int .i64 0) rfl (by kernel_rfl) (by kernel_rfl) (by kernel_rfl) (fun _ _ _ h => h) (Or.inl ⟨by rfl, fun W hW => ?_⟩) hHeld ?_
                · clear hW
                  go_simp
                try simp only [Act.put, List.getElem_toArray, List.getElem_cons_zero, List.getElem_cons_succ, List.setIfInBounds_toArray, List.set_cons_zero, List.set_cons_succ]
                refine wpAnyH_done (by kernel_rfl) ?_ _
                go_wp2
                go_ret2
                exact HR.out
              · refine step_make (by rfl) (.tmp 38) 54 (by rfl) w.heap.size 60 i2 _ 1 Try.underlying54 ki kz0 kz1 zs.length (by rfl) (by have := HA.out.2.2.2; rw [kz2]; omega) (by have := HA.out.2.2.2; unfold maxLen; omega) G.size ?_
                intro gL wn On Kn
                rw [made1 _ rfl] at On
                have LL := QBk.ofRow On
                have hgL := (On.lt _ rfl).1
                replace G := grown_trans G Kn
                replace E0 := owns_keptNone E0 Kn
                replace FF := FF.keptNone Kn
                clear On
                refine hK.out _ _ trivial (fun hHeld => ?_)
                clear hK K hHeld
                try simp only [Act.put, List.getElem_toArray, List.getElem_cons_zero, List.getElem_cons_succ, List.setIfInBounds_toArray, List.set_cons_zero, List.set_cons_succ]
                refine wpAnyH_ready (rs := [2]) (by kernel_rfl) (by simp) (AllReadyH.cons rfl (fun K hK => ?_) AllReadyH.nil)
                refine step_append_cv (by rfl) (.tmp 31) (.tmp 32) 22 (by rfl) 3 i0 _ 1 8 Try.underlying22 hi hz0 hz1 hz2 rfl (by decide) g0 _ 0 [] (by rfl) E0 ⟨b, o, none⟩ zs.length ca (zs.map iv) (by rfl) (by simp) (HA.out.1.keptNone G) (by intro u hu; obtain ⟨z, _, rfl⟩ := List.mem_map.1 hu; rfl) (by have := HA.out.2.2.2; unfold maxLen; omega) (by have := HA.out.2.2.2; omega) (Nat.le_of_lt (E0.lt g0 rfl).2) ?_
                intro vd wn Dn Kn0
                rw [Nat.zero_add, List.nil_append] at Dn
                have Kn : w.grownBy wn none := grown_trans_new G Kn0 (fun x hx => by cases hx; exact hg0)
                clear G
                have G := Kn
                have D := owns_mono Dn hg0
                replace FF := FF.kept Kn0 (fun e => own_tne E0 FF (by decide) (Option.some.inj e))
                replace LL := LL.kept Kn0 (fun e => own_tne E0 LL (by decide) (Option.some.inj e))
                refine hK.out _ _ trivial (fun hHeld => ?_)
                clear hK K hHeld
                try simp only [Act.put, List.getElem_toArray, List.getElem_cons_zero, List.getElem_cons_succ, List.setIfInBounds_toArray, List.set_cons_zero, List.set_cons_succ]
                obtain ⟨gd, cd, hvd, -⟩ := owns_head D (by have := HA.out.2.2.1; omega)
                have HE := rqnew_end HN.out hvd G D FF LL hgF hgL
                subst hvd
                refine wpAnyH_take (i := 9) (v := .agg #[.slice (some ⟨gd, 0, none⟩) zs.length cd, .slice (some ⟨gF, 0, none⟩) zs.length zs.length, .slice (some ⟨gL, 0, none⟩) zs.length zs.length]) rfl (by kernel_rfl) (by kernel_rfl) (by kernel_rfl) (fun _ _ _ h => h) (yieldsIf_bld (by rfl) 56 _ (by rfl) _ (by kernel_rfl) (.agg #[.slice (some ⟨gd, 0, none⟩) zs.length cd, .slice (some ⟨gF, 0, none⟩) zs.length zs.length, .slice (some ⟨gL, 0, none⟩) zs.length zs.length]) (fun W => bldRq _ _ _ _ _ _ _ _ _ W)) trivial ?_
                try simp only [Act.put, List.getElem_toArray, List.getElem_cons_zero, List.getElem_cons_succ, List.setIfInBounds_toArray, List.set_cons_zero, List.set_cons_succ]
                have HR : Hid _ := HE
                clear HE D FF LL G hgF hgL
                refine wpAnyH_ready (rs := [10]) (by kernel_rfl) (by simp) (AllReadyH.cons rfl (fun K hK => ?_) AllReadyH.nil)
                go_simp
                refine hK.out _ _ trivial (fun hHeld => ?_)
                clear hK K hHeld
                try simp only [Act.put, List.getElem_toArray, List.getElem_cons_zero, List.getElem_cons_succ, List.setIfInBounds_toArray, List.set_cons_zero, List.set_cons_succ]
                refine wpAnyH_take (i := 11) (v := .pointer (some ⟨wn.heap.size, 0, none⟩)) rfl (by kernel_rfl) (by kernel_rfl) (by kernel_rfl) (fun _ _ _ h => h) (Or.inl ⟨by rfl, fun W hW => ?_⟩) hHeld ?_
                · clear hW
                  go_simp
                try simp only [Act.put, List.getElem_toArray, List.getElem_cons_zero, List.getElem_cons_succ, List.setIfInBounds_toArray, List.set_cons_zero, List.set_cons_succ]
                refine wpAnyH_take (i := 12) (v := .int .i64 0) rfl (by kernel_rfl) (by kernel_rfl) (by kernel_rfl) (fun _ _ _ h => h) (Or.inl ⟨by rfl, fun W hW => ?_⟩) hHeld ?_
                · clear hW
                  go_simp
                try simp only [Act.put, List.getElem_toArray, List.getElem_cons_zero, List.getElem_cons_succ, List.setIfInBounds_toArray, List.set_cons_zero, List.set_cons_succ]
                refine wpAnyH_done (by kernel_rfl) ?_ _
                go_wp2
                go_ret2
                exact HR.out
            · refine step_make (by rfl) (.tmp 38) 54 (by rfl) w.heap.size 60 i2 _ 1 Try.underlying54 ki kz0 kz1 zs.length (by rfl) (by have := HA.out.2.2.2; rw [kz2]; omega) (by have := HA.out.2.2.2; unfold maxLen; omega) G.size ?_
              intro gL wn On Kn
              rw [made1 _ rfl] at On
              have LL := QBk.ofRow On
              have hgL := (On.lt _ rfl).1
              replace G := grown_trans G Kn
              replace FF := FF.keptNone Kn
              clear On
              refine hK.out _ _ trivial (fun hHeld => ?_)
              clear hK K hHeld
              try simp only [Act.put, List.getElem_toArray, List.getElem_cons_zero, List.getElem_cons_succ, List.setIfInBounds_toArray, List.set_cons_zero, List.set_cons_succ]
              refine wpAnyH_ready (rs := [0]) (by kernel_rfl) (by simp) (AllReadyH.cons rfl (fun K hK => ?_) AllReadyH.nil)
              refine step_bld0 (by rfl) 22 3 (by rfl) bld0 ?_
              intro g0 wn E0n hg0n Kn
              have hg0 : w.heap.size ≤ g0 := Nat.le_trans G.size hg0n
              replace G := grown_trans G Kn
              replace FF := FF.keptNone Kn
              replace LL := LL.keptNone Kn
              have E0 := E0n
              clear E0n hg0n
              refine hK.out _ _ trivial (fun hHeld => ?_)
              clear hK K hHeld
              try simp only [Act.put, List.getElem_toArray, List.getElem_cons_zero, List.setIfInBounds_toArray, List.set_cons_zero, List.set_cons_succ]
              refine wpAnyH_ready (rs := [2]) (by kernel_rfl) (by simp) (AllReadyH.cons rfl (fun K hK => ?_) AllReadyH.nil)
              refine step_append_cv (by rfl) (.tmp 31) (.tmp 32) 22 (by rfl) 3 i0 _ 1 8 Try.underlying22 hi hz0 hz1 hz2 rfl (by decide) g0 _ 0 [] (by rfl) E0 ⟨b, o, none⟩ zs.length ca (zs.map iv) (by rfl) (by simp) (HA.out.1.keptNone G) (by intro u hu; obtain ⟨z, _, rfl⟩ := List.mem_map.1 hu; rfl) (by have := HA.out.2.2.2; unfold maxLen; omega) (by have := HA.out.2.2.2; omega) (Nat.le_of_lt (E0.lt g0 rfl).2) ?_
              intro vd wn Dn Kn0
              rw [Nat.zero_add, List.nil_append] at Dn
              have Kn : w.grownBy wn none := grown_trans_new G Kn0 (fun x hx => by cases hx; exact hg0)
              clear G
              have G := Kn
              have D := owns_mono Dn hg0
              replace FF := FF.kept Kn0 (fun e => own_tne E0 FF (by decide) (Option.some.inj e))
              replace LL := LL.kept Kn0 (fun e => own_tne E0 LL (by decide) (Option.some.inj e))
              refine hK.out _ _ trivial (fun hHeld => ?_)
              clear hK K hHeld
              try simp only [Act.put, List.getElem_toArray, List.getElem_cons_zero, List.getElem_cons_succ, List.setIfInBounds_toArray, List.set_cons_zero, List.set_cons_succ]
              obtain ⟨gd, cd, hvd, -⟩ := owns_head D (by have := HA.out.2.2.1; omega)
              have HE := rqnew_end HN.out hvd G D FF LL hgF hgL
              subst hvd
              refine wpAnyH_take (i := 9) (v := .agg #[.slice (some ⟨gd, 0, none⟩) zs.length cd, .slice (some ⟨gF, 0, none⟩) zs.length zs.length, .slice (some ⟨gL, 0, none⟩) zs.length zs.length]) rfl (by kernel_rfl) (by kernel_rfl) (by kernel_rfl) (fun _ _ _ h => h) (yieldsIf_bld (by rfl) 56 _ (by rfl) _ (by kernel_rfl) (.agg #[.slice (some ⟨gd, 0, none⟩) zs.length cd, .slice (some ⟨gF, 0, none⟩) zs.length zs.length, .slice (some ⟨gL, 0, none⟩) zs.length zs.length]) (fun W => bldRq _ _ _ _ _ _ _ _ _ W)) trivial ?_
              try simp only [Act.put, List.getElem_toArray, List.getElem_cons_zero, List.getElem_cons_succ, List.setIfInBounds_toArray, List.set_cons_zero, List.set_cons_succ]
              have HR : Hid _ := HE
              clear HE D FF LL G hgF hgL
              refine wpAnyH_ready (rs := [10]) (by kernel_rfl) (by simp) (AllReadyH.cons rfl (fun K hK => ?_) AllReadyH.nil)
              go_simp
              refine hK.out _ _ trivial (fun hHeld => ?_)
              clear hK K hHeld
              try simp only [Act.put, List.getElem_toArray, List.getElem_cons_zero, List.getElem_cons_succ, List.setIfInBounds_toArray, List.set_cons_zero, List.set_cons_succ]
              refine wpAnyH_take (i := 11) (v := .pointer (some ⟨wn.heap.size, 0, none⟩)) rfl (by kernel_rfl) (by kernel_rfl) (by kernel_rfl) (fun _ _ _ h => h) (Or.inl ⟨by rfl, fun W hW => ?_⟩) hHeld ?_
              · clear hW
                go_simp
              try simp only [Act.put, List.getElem_toArray, List.getElem_cons_zero, List.getElem_cons_succ, List.setIfInBounds_toArray, List.set_cons_zero, List.set_cons_succ]
              refine wpAnyH_take (i := 12) (v := .int .i64 0) rfl (by kernel_rfl) (by kernel_rfl) (by kernel_rfl) (fun _ _ _ h => h) (Or.inl ⟨by rfl, fun W hW => ?_⟩) hHeld ?_
              · clear hW
                go_simp
              try simp only [Act.put, List.getElem_toArray, List.getElem_cons_zero, List.getElem_cons_succ, List.setIfInBounds_toArray, List.set_cons_zero, List.set_cons_succ]
              refine wpAnyH_done (by kernel_rfl) ?_ _
              go_wp2
              go_ret2
              exact HR.out
          · refine step_make (by rfl) (.tmp 38) 54 (by rfl) w.heap.size 60 i2 _ 1 Try.underlying54 ki kz0 kz1 zs.length (by rfl) (by have := HA.out.2.2.2; rw [kz2]; omega) (by have := HA.out.2.2.2; unfold maxLen; omega) G.size ?_
            intro gL wn On Kn
            rw [made1 _ rfl] at On
            have LL := QBk.ofRow On
            have hgL := (On.lt _ rfl).1
            replace G := grown_trans G Kn
            clear On
            refine hK.out _ _ trivial (fun hHeld => ?_)
            clear hK K hHeld
            try simp only [Act.put, List.getElem_toArray, List.getElem_cons_zero, List.getElem_cons_succ, List.setIfInBounds_toArray, List.set_cons_zero, List.set_cons_succ]
            refine wpAnyH_ready (rs := [0, 5]) (by kernel_rfl) (by simp) (AllReadyH.cons rfl (fun K hK => ?_) (AllReadyH.cons rfl (fun K hK => ?_) AllReadyH.nil))
            · refine step_bld0 (by rfl) 22 3 (by rfl) bld0 ?_
              intro g0 wn E0n hg0n Kn
              have hg0 : w.heap.size ≤ g0 := Nat.le_trans G.size hg0n
              replace G := grown_trans G Kn
              replace LL := LL.keptNone Kn
              have E0 := E0n
              clear E0n hg0n
              refine hK.out _ _ trivial (fun hHeld => ?_)
              clear hK K hHeld
              try simp only [Act.put, List.getElem_toArray, List.getElem_cons_zero, List.setIfInBounds_toArray, List.set_cons_zero, List.set_cons_succ]
              refine wpAnyH_ready (rs := [2, 5]) (by kernel_rfl) (by simp) (AllReadyH.cons rfl (fun K hK => ?_) (AllReadyH.cons rfl (fun K hK => ?_) AllReadyH.nil))
              · refine step_append_cv (by rfl) (.tmp 31) (.tmp 32) 22 (by rfl) 3 i0 _ 1 8 Try.underlying22 hi hz0 hz1 hz2 rfl (by decide) g0 _ 0 [] (by rfl) E0 ⟨b, o, none⟩ zs.length ca (zs.map iv) (by rfl) (by simp) (HA.out.1.keptNone G) (by intro u hu; obtain ⟨z, _, rfl⟩ := List.mem_map.1 hu; rfl) (by have := HA.out.2.2.2; unfold maxLen; omega) (by have := HA.out.2.2.2; omega) (Nat.le_of_lt (E0.lt g0 rfl).2) ?_
                intro vd wn Dn Kn0
                rw [Nat.zero_add, List.nil_append] at Dn
                have Kn : w.grownBy wn none := grown_trans_new G Kn0 (fun x hx => by cases hx; exact hg0)
                clear G
                have G := Kn
                have D := owns_mono Dn hg0
                replace LL := LL.kept Kn0 (fun e => own_tne E0 LL (by decide) (Option.some.inj e))
                refine hK.out _ _ trivial (fun hHeld => ?_)
                clear hK K hHeld
                try simp only [Act.put, List.getElem_toArray, List.getElem_cons_zero, List.getElem_cons_succ, List.setIfInBounds_toArray, List.set_cons_zero, List.set_cons_succ]
                refine wpAnyH_ready (rs := [5]) (by kernel_rfl) (by simp) (AllReadyH.cons rfl (fun K hK => ?_) AllReadyH.nil)
                refine step_make (by rfl) (.tmp 35) 53 (by rfl) w.heap.size 45 i1 _ 1 Try.underlying53 ji jz0 jz1 zs.length (by rfl) (by have := HA.out.2.2.2; rw [jz2]; omega) (by have := HA.out.2.2.2; unfold maxLen; omega) G.size ?_
                intro gF wn On Kn
                rw [made1 _ rfl] at On
                have FF := QBk.ofRow On
                have hgF := (On.lt _ rfl).1
                replace G := grown_trans G Kn
                replace D := owns_keptNone D Kn
                replace LL := LL.keptNone Kn
                clear On
                refine hK.out _ _ trivial (fun hHeld => ?_)
                clear hK K hHeld
                try simp only [Act.put, List.getElem_toArray, List.getElem_cons_zero, List.getElem_cons_succ, List.setIfInBounds_toArray, List.set_cons_zero, List.set_cons_succ]
                obtain ⟨gd, cd, hvd, -⟩ := owns_head D (by have := HA.out.2.2.1; omega)
                have HE := rqnew_end HN.out hvd G D FF LL hgF hgL
                subst hvd
                refine wpAnyH_take (i := 9) (v := .agg #[.slice (some ⟨gd, 0, none⟩) zs.length cd, .slice (some ⟨gF, 0, none⟩) zs.length zs.length, .slice (some ⟨gL, 0, none⟩) zs.length zs.length]) rfl (by kernel_rfl) (by kernel_rfl) (by kernel_rfl) (fun _ _ _ h => h) (yieldsIf_bld (by rfl) 56 _ (by rfl) _ (by kernel_rfl) (.agg #[.slice (some ⟨gd, 0, none⟩) zs.length cd, .slice (some ⟨gF, 0, none⟩) zs.length zs.length, .slice (some ⟨gL, 0, none⟩) zs.length zs.length]) (fun W => bldRq _ _ _ _ _ _ _ _ _ W)) trivial ?_
                try simp only [Act.put, List.getElem_toArray, List.getElem_cons_zero, List.getElem_cons_succ, List.setIfInBounds_toArray, List.set_cons_zero, List.set_cons_succ]
                have HR : Hid _ := HE
                clear HE D FF LL G hgF hgL
                refine wpAnyH_ready (rs := [10]) (by kernel_rfl) (by simp) (AllReadyH.cons rfl (fun K hK => ?_) AllReadyH.nil)
                go_simp
                refine hK.out _ _ trivial (fun hHeld => ?_)
                clear hK K hHeld
                try simp only [Act.put, List.getElem_toArray, List.getElem_cons_zero, List.getElem_cons_succ, List.setIfInBounds_toArray, List.set_cons_zero, List.set_cons_succ]
                refine wpAnyH_take (i := 11) (v := .pointer (some ⟨wn.heap.size, 0, none⟩)) rfl (by kernel_rfl) (by kernel_rfl) (by kernel_rfl) (fun _ _ _ h => h) (Or.inl ⟨by rfl, fun W hW => ?_⟩) hHeld ?_
                · clear hW
                  go_simp
                try simp only [Act.put, List.getElem_toArray, List.getElem_cons_zero, List.getElem_cons_succ, List.setIfInBounds_toArray, List.set_cons_zero, List.set_cons_succ]
                refine wpAnyH_take (i := 12) (v := .int .i64 0) rfl (by kernel_rfl) (by kernel_rfl) (by kernel_rfl) (fun _ _ _ h => h) (Or.inl ⟨by rfl, fun W hW => ?_⟩) hHeld ?_
                · clear hW
                  go_simp
                try simp only [Act.put, List.getElem_toArray, List.getElem_cons_zero, List.getElem_cons_succ, List.setIfInBounds_toArray, List.set_cons_zero, List.set_cons_succ]
                refine wpAnyH_done (by kernel_rfl) ?_ _
                go_wp2
                go_ret2
                exact HR.out
              · refine step_make (by rfl) (.tmp 35) 53 (by rfl) w.heap.size 45 i1 _ 1 Try.underlying53 ji jz0 jz1 zs.length (by rfl) (by have := HA.out.2.2.2; rw [jz2]; omega) (by have := HA.out.2.2.2; unfold maxLen; omega) G.size ?_
                intro gF wn On Kn
                rw [made1 _ rfl] at On
                have FF := QBk.ofRow On
                have hgF := (On.lt _ rfl).1
                replace G := grown_trans G Kn
                replace E0 := owns_keptNone E0 Kn
                replace LL := LL.keptNone Kn
                clear On
                refine hK.out _ _ trivial (fun hHeld => ?_)
                clear hK K hHeld
                try simp only [Act.put, List.getElem_toArray, List.getElem_cons_zero, List.getElem_cons_succ, List.setIfInBounds_toArray, List.set_cons_zero, List.set_cons_succ]
                refine wpAnyH_ready (rs := [2]) (by kernel_rfl) (by simp) (AllReadyH.cons rfl (fun K hK => ?_) AllReadyH.nil)
                refine step_append_cv (by rfl) (.tmp 31) (.tmp 32) 22 (by rfl) 3 i0 _ 1 8 Try.underlying22 hi hz0 hz1 hz2 rfl (by decide) g0 _ 0 [] (by rfl) E0 ⟨b, o, none⟩ zs.length ca (zs.map iv) (by rfl) (by simp) (HA.out.1.keptNone G) (by intro u hu; obtain ⟨z, _, rfl⟩ := List.mem_map.1 hu; rfl) (by have := HA.out.2.2.2; unfold maxLen; omega) (by have := HA.out.2.2.2; omega) (Nat.le_of_lt (E0.lt g0 rfl).2) ?_
                intro vd wn Dn Kn0
                rw [Nat.zero_add, List.nil_append] at Dn
                have Kn : w.grownBy wn none := grown_trans_new G Kn0 (fun x hx => by cases hx; exact hg0)
                clear G
                have G := Kn
                have D := owns_mono Dn hg0
                replace FF := FF.kept Kn0 (fun e => own_tne E0 FF (by decide) (Option.some.inj e))
                replace LL := LL.kept Kn0 (fun e => own_tne E0 LL (by decide) (Option.some.inj e))
                refine hK.out _ _ trivial (fun hHeld => ?_)
                clear hK K hHeld
                try simp only [Act.put, List.getElem_toArray, List.getElem_cons_zero, List.getElem_cons_succ, List.setIfInBounds_toArray, List.set_cons_zero, List.set_cons_succ]
                obtain ⟨gd, cd, hvd, -⟩ := owns_head D (by have := HA.out.2.2.1; omega)
                have HE := rqnew_end HN.out hvd G D FF LL hgF hgL
                subst hvd
                refine wpAnyH_take (i := 9) (v := .agg #[.slice (some ⟨gd, 0, none⟩) zs.length cd, .slice (some ⟨gF, 0, none⟩) zs.length zs.length, .slice (some ⟨gL, 0, none⟩) zs.length zs.length]) rfl (by kernel_rfl) (by kernel_rfl) (by kernel_rfl) (fun _ _ _ h => h) (yieldsIf_bld (by rfl) 56 _ (by rfl) _ (by kernel_rfl) (.agg #[.slice (some ⟨gd, 0, none⟩) zs.length cd, .slice (some ⟨gF, 0, none⟩) zs.length zs.length, .slice (some ⟨gL, 0, none⟩) zs.length zs.length]) (fun W => bldRq _ _ _ _ _ _ _ _ _ W)) trivial ?_
                try simp only [Act.put, List.getElem_toArray, List.getElem_cons_zero, List.getElem_cons_succ, List.setIfInBounds_toArray, List.set_cons_zero, List.set_cons_succ]
                have HR : Hid _ := HE
                clear HE D FF LL G hgF hgL
                refine wpAnyH_ready (rs := [10]) (by kernel_rfl) (by simp) (AllReadyH.cons rfl (fun K hK => ?_) AllReadyH.nil)
                go_simp
                refine hK.out _ _ trivial (fun hHeld => ?_)
                clear hK K hHeld
                try simp only [Act.put, List.getElem_toArray, List.getElem_cons_zero, List.getElem_cons_succ, List.setIfInBounds_toArray, List.set_cons_zero, List.set_cons_succ]
                refine wpAnyH_take (i := 11) (v := .pointer (some ⟨wn.heap.size, 0, none⟩)) rfl (by kernel_rfl) (by kernel_rfl) (by kernel_rfl) (fun _ _ _ h => h) (Or.inl ⟨by rfl, fun W hW => ?_⟩) hHeld ?_
                · clear hW
                  go_simp
                try simp only [Act.put, List.getElem_toArray, List.getElem_cons_zero, List.getElem_cons_succ, List.setIfInBounds_toArray, List.set_cons_zero, List.set_cons_succ]
                refine wpAnyH_take (i := 12) (v := .int .i64 0) rfl (by kernel_rfl) (by kernel_rfl) (by kernel_rfl) (fun _ _ _ h => h) (Or.inl ⟨by rfl, fun W hW => ?_⟩) hHeld ?_
                · clear hW
                  go_simp
                try simp only [Act.put, List.getElem_toArray, List.getElem_cons_zero, List.getElem_cons_succ, List.setIfInBounds_toArray, List.set_cons_zero, List.set_cons_succ]
                refine wpAnyH_done (by kernel_rfl) ?_ _
                go_wp2
                go_ret2
                exact HR.out
            · refine step_make (by rfl) (.tmp 35) 53 (by rfl) w.heap.size 45 i1 _ 1 Try.underlying53 ji jz0 jz1 zs.length (by rfl) (by have := HA.out.2.2.2; rw [jz2]; omega) (by have := HA.out.2.2.2; unfold maxLen; omega) G.size ?_
              intro gF wn On Kn
              rw [made1 _ rfl] at On
              have FF := QBk.ofRow On
              have hgF := (On.lt _ rfl).1
              replace G := grown_trans G Kn
              replace LL := LL.keptNone Kn
              clear On
              refine hK.out _ _ trivial (fun hHeld => ?_)
              clear hK K hHeld
              try simp only [Act.put, List.getElem_toArray, List.getElem_cons_zero, List.getElem_cons_succ, List.setIfInBounds_toArray, List.set_cons_zero, List.set_cons_succ]
              refine wpAnyH_ready (rs := [0]) (by kernel_rfl) (by simp) (AllReadyH.cons rfl (fun K hK => ?_) AllReadyH.nil)
              refine step_bld0 (by rfl) 22 3 (by rfl) bld0 ?_
              intro g0 wn E0n hg0n Kn
              have hg0 : w.heap.size ≤ g0 := Nat.le_trans G.size hg0n
              replace G := grown_trans G Kn
              replace FF := FF.keptNone Kn
              replace LL := LL.keptNone Kn
              have E0 := E0n
              clear E0n hg0n
              refine hK.out _ _ trivial (fun hHeld => ?_)
              clear hK K hHeld
              try simp only [Act.put, List.getElem_toArray, List.getElem_cons_zero, List.setIfInBounds_toArray, List.set_cons_zero, List.set_cons_succ]
              refine wpAnyH_ready (rs := [2]) (by kernel_rfl) (by simp) (AllReadyH.cons rfl (fun K hK => ?_) AllReadyH.nil)
              refine step_append_cv (by rfl) (.tmp 31) (.tmp 32) 22 (by rfl) 3 i0 _ 1 8 Try.underlying22 hi hz0 hz1 hz2 rfl (by decide) g0 _ 0 [] (by rfl) E0 ⟨b, o, none⟩ zs.length ca (zs.map iv) (by rfl) (by simp) (HA.out.1.keptNone G) (by intro u hu; obtain ⟨z, _, rfl⟩ := List.mem_map.1 hu; rfl) (by have := HA.out.2.2.2; unfold maxLen; omega) (by have := HA.out.2.2.2; omega) (Nat.le_of_lt (E0.lt g0 rfl).2) ?_
              intro vd wn Dn Kn0
              rw [Nat.zero_add, List.nil_append] at Dn
              have Kn : w.grownBy wn none := grown_trans_new G Kn0 (fun x hx => by cases hx; exact hg0)
              clear G
              have G := Kn
              have D := owns_mono Dn hg0
              replace FF := FF.kept Kn0 (fun e => own_tne E0 FF (by decide) (Option.some.inj e))
              replace LL := LL.kept Kn0 (fun e => own_tne E0 LL (by decide) (Option.some.inj e))
              refine hK.out _ _ trivial (fun hHeld => ?_)
              clear hK K hHeld
              try simp only [Act.put, List.getElem_toArray, List.getElem_cons_zero, List.getElem_cons_succ, List.setIfInBounds_toArray, List.set_cons_zero, List.set_cons_succ]
              obtain ⟨gd, cd, hvd, -⟩ := owns_head D (by have := HA.out.2.2.1; omega)
              have HE := rqnew_end HN.out hvd G D FF LL hgF hgL
              subst hvd
              refine wpAnyH_take (i := 9) (v := .agg #[.slice (some ⟨gd, 0, none⟩) zs.length cd, .slice (some ⟨gF, 0, none⟩) zs.length zs.length, .slice (some ⟨gL, 0, none⟩) zs.length zs.length]) rfl (by kernel_rfl) (by kernel_rfl) (by kernel_rfl) (fun _ _ _ h => h) (yieldsIf_bld (by rfl) 56 _ (by rfl) _ (by kernel_rfl) (.agg #[.slice (some ⟨gd, 0, none⟩) zs.length cd, .slice (some ⟨gF, 0, none⟩) zs.length zs.length, .slice (some ⟨gL, 0, none⟩) zs.length zs.length]) (fun W => bldRq _ _ _ _ _ _ _ _ _ W)) trivial ?_
              try simp only [Act.put, List.getElem_toArray, List.getElem_cons_zero, List.getElem_cons_succ, List.setIfInBounds_toArray, List.set_cons_zero, List.set_cons_succ]
              have HR : Hid _ := HE
              clear HE D FF LL G hgF hgL
              refine wpAnyH_ready (rs := [10]) (by kernel_rfl) (by simp) (AllReadyH.cons rfl (fun K hK => ?_) AllReadyH.nil)
              go_simp
              refine hK.out _ _ trivial (fun hHeld => ?_)
              clear hK K hHeld
              try simp only [Act.put, List.getElem_toArray, List.getElem_cons_zero, List.getElem_cons_succ, List.setIfInBounds_toArray, List.set_cons_zero, List.set_cons_succ]
              refine wpAnyH_take (i := 11) (v := .pointer (some ⟨wn.heap.size, 0, none⟩)) rfl (by kernel_rfl) (by kernel_rfl) (by kernel_rfl) (fun _ _ _ h => h) (Or.inl ⟨by rfl, fun W hW => ?_⟩) hHeld ?_
              · clear hW
                go_simp
              try simp only [Act.put, List.getElem_toArray, List.getElem_cons_zero, List.getElem_cons_succ, List.setIfInBounds_toArray, List.set_cons_zero, List.set_cons_succ]
              refine wpAnyH_take (i := 12) (v := .int .i64 0) rfl (by kernel_rfl) (by kernel_rfl) (by kernel_rfl) (fun _ _ _ h => h) (Or.inl ⟨by rfl, fun W hW => ?_⟩) hHeld ?_
              · clear hW
                go_simp
              try simp only [Act.put, List.getElem_toArray, List.getElem_cons_zero, List.getElem_cons_succ, List.setIfInBounds_toArray, List.set_cons_zero, List.set_cons_succ]
              refine wpAnyH_done (by kernel_rfl) ?_ _
              go_wp2
              go_ret2
              exact HR.out

end Go.Proofs.Ytlfjpbedjmnpaaa
