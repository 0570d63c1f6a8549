/-
  Package queue as landed: New.
-/
import Derived.Test.YtlfjpbedjmnpaaaQuD
import Derived.Test.YtlfjpbedjmnpaaaIntR
namespace Go.Proofs.Ytlfjpbedjmnpaaa
open Go.RowKit
set_option maxRecDepth 100000

def c00 : Cq := ⟨0, 0, .slice none 0 0, []⟩
def cNew (z : Int) : Cq := ⟨z.toNat, 0, .slice none 0 0, []⟩
/-- The classes of a new queue while their depths are laid. -/
def csNew (zs : List Int) (k : Nat) : List Cq := (zs.take k).map cNew ++ List.replicate (zs.length - k) c00

theorem csNew_len (zs : List Int) (k : Nat) (hk : k ≤ zs.length) : (csNew zs k).length = zs.length := by simp [csNew]; omega
theorem csNew_at (zs : List Int) (k : Nat) (hk : k < zs.length) : (csNew zs k)[k]? = some c00 := by
  unfold csNew
  rw [List.getElem?_append_right (by simp; omega), List.getElem?_replicate, if_pos (by simp; omega)]
theorem csNew_set (zs : List Int) (k : Nat) (hk : k < zs.length) : (csNew zs k).set k (cNew zs[k]) = csNew zs (k + 1) := by
  unfold csNew
  rw [List.set_append_right (h := by simp; omega), List.take_succ_eq_append_getElem hk, List.map_append, List.append_assoc]
  congr 1
  have e : zs.length - k = (zs.length - (k + 1)) + 1 := by omega
  have e2 : k - ((zs.take k).map cNew).length = 0 := by simp; omega
  rw [e, e2, List.replicate_succ]
  rfl
theorem csNew_all (zs : List Int) : (csNew zs zs.length).map Cq.abs = newP zs := by simp [csNew, newP, cNew, Cq.abs]

theorem made_q (n : Nat) : (madeCells #[.int .u32 0, .int .i64 0, .slice none 0 0] (n * 3)).toList = qcells (List.replicate n c00) := by
  apply List.ext_getElem?
  intro i
  by_cases hi : i < n * 3
  · have h1 := qcells_get (List.replicate n c00) (i / 3) (i % 3) c00 (by rw [List.getElem?_replicate, if_pos (by omega)]) (Nat.mod_lt _ (by decide))
    rw [show i / 3 * 3 + i % 3 = i by omega] at h1
    rw [h1]
    have h3 : i % 3 = 0 ∨ i % 3 = 1 ∨ i % 3 = 2 := by omega
    simp only [madeCells, Array.toList_map, List.getElem?_map, Array.getElem?_toList]
    rcases h3 with h | h | h <;> simp [hi, h, Cq.cells, c00]
  · rw [List.getElem?_eq_none (by simp [madeCells]; omega), List.getElem?_eq_none (by rw [qcells_len]; simp; omega)]

theorem QBk.ofRow {w : World} {base e size n g : Nat} {xs : List Value} (h : w.ownsRow base e size (.slice (some ⟨g, 0, none⟩) n n) n xs) : QBk w g e xs.toArray := by
  rcases h.2 with ⟨hv, _⟩ | ⟨g', cap, cur, hv, hb, hg, hc, hm, hs, ht⟩
  · cases hv
  · simp only [Value.slice.injEq, Option.some.injEq, Addr.mk.injEq] at hv
    obtain ⟨⟨rfl, -⟩, -, rfl⟩ := hv
    have : cur.toList = xs := by rw [← ht, List.take_of_length_le (by simp; omega)]
    have e : cur = xs.toArray := by rw [← this]
    rw [← e]
    exact hg

theorem LqAt.deps {w : World} {base : Nat} {q : Lq} {k : Nat} {c : Cq} (h : LqAt w base q) (hk : q.cs[k]? = some c) (n : Nat) (hn : n ≤ 1024) : LqAt (w.setCell ⟨q.gc, k * 3 + 1, none⟩ (.int .i64 (n : Int))) base (q.with k ⟨n, c.lost, c.h, c.fs⟩) := by
  have hcm := List.mem_of_getElem? hk
  have hne : q.gc ≠ q.g := QBk.tys h.cls h.blk (by decide)
  have G2 : w.grownBy (w.setCell ⟨q.gc, k * 3 + 1, none⟩ (.int .i64 (n : Int))) (some q.gc) := grown_setCell (World.grownBy.refl _ _) _ _ (.inl rfl)
  have C2 := h.cls.set (k * 3 + 1) (.int .i64 (n : Int))
  rw [List.setIfInBounds_toArray, qcells_set 1 (by omega) _ ⟨n, c.lost, c.h, c.fs⟩ q.cs k c hk rfl] at C2
  have H1 : HL w base (q.cs.set k ⟨n, c.lost, c.h, c.fs⟩) := by
    refine h.hl.set hk (GW.refl _ _) (h.hl.row c hcm) (fun y hy => .inl hy) (h.hl.own c hcm) (fun a => ?_)
    have e1 := count_set gf a ⟨n, c.lost, c.h, c.fs⟩ q.cs k c hk
    have e2 := h.hl.nf a
    have e3 : (gf ⟨n, c.lost, c.h, c.fs⟩).count a = (gf c).count a := rfl
    unfold fblk at *
    omega
  refine ⟨?_, C2, H1.other h.cls (by decide) (by decide) G2, ⟨h.lo.1, h.lo.2.1, Nat.le_trans h.lo.2.2 G2.size⟩, by simpa [Lq.with] using h.few, fun d hd => ?_⟩
  · have := h.blk.kept G2 (by simpa using hne)
    unfold Lq.with Lq.sv at *
    simpa using this
  · rcases List.mem_or_eq_of_mem_set hd with hd | rfl
    · exact h.dep d hd
    · have := h.dep c hcm
      exact ⟨hn, this.2.1, this.2.2⟩

theorem count_rep (g : Cq → List Nat) (hg : g c00 = []) (a : Nat) : ∀ n, ((List.replicate n c00).flatMap g).count a = 0
  | 0 => rfl
  | n + 1 => by rw [List.replicate_succ, List.flatMap_cons, hg, List.nil_append, count_rep g hg a n]
theorem hl_new (w : World) (base n : Nat) : HL w base (List.replicate n c00) :=
  ⟨fun c hc => by obtain rfl := (List.mem_replicate.1 hc).2; exact ORow.nil _ _ _, fun c hc f hf => (by obtain rfl := (List.mem_replicate.1 hc).2; cases hf), fun a => by unfold hblk; rw [count_rep gh rfl]; omega, fun a => by unfold fblk; rw [count_rep gf rfl]; omega⟩

/-- What New leaves. -/
def NewL (w : World) (zs : List Int) (e : Ending) (w' : World) : Prop :=
  w.grownBy w' none ∧ ((newB zs = false ∧ e = .returned (.tuple #[.pointer none, .int .i64 210])) ∨ (newB zs = true ∧ ∃ q : Lq, e = .returned (.tuple #[.pointer (some ⟨q.g, 0, none⟩), .int .i64 0]) ∧ LqAt w' w.heap.size q ∧ q.cs.map Cq.abs = newP zs))

theorem newB_short {zs : List Int} (h : zs.length < 1 ∨ 17 < zs.length) : newB zs = false := by
  unfold newB
  rw [decide_eq_false (by omega)]
  rfl
theorem newB_bad {zs : List Int} {k : Nat} (hk : k < zs.length) (h : zs[k] < 1 ∨ 1024 < zs[k]) : newB zs = false := by
  unfold newB
  rw [Bool.and_eq_false_iff]
  right
  rw [List.all_eq_false]
  exact ⟨zs[k], List.getElem_mem hk, by simp [depB]; omega⟩
theorem newB_ok {zs : List Int} (h : 1 ≤ zs.length ∧ zs.length ≤ 17) (h2 : ∀ k (hk : k < zs.length), 1 ≤ zs[k] ∧ zs[k] ≤ 1024) : newB zs = true := by
  unfold newB
  rw [decide_eq_true h, Bool.true_and, List.all_eq_true]
  intro z hz
  obtain ⟨k, hk, rfl⟩ := List.mem_iff_getElem.1 hz
  exact decide_eq_true (h2 k hk)

theorem infoCl : (Try.prog.info? 64).map (fun i => (i.zero, i.size, i.bytes)) = some (some (.agg #[.int .u32 0, .int .i64 0, .slice none 0 0]), 3, 40) := by kernel_rfl

set_option maxHeartbeats 4000000 in
theorem lnew_any (a : Option Addr) (ca : Nat) (zs : List Int) (w : World) (ha : CV w a (zs.map iv)) (hn : zs.length ≤ 35184372088832) :
    Calls Try.prog 9 #[.slice a zs.length ca] w (NewL w zs) := by
  obtain ⟨i0, hi, hz0, hz1, hz2⟩ := info_parts infoCl
  by_cases h1 : zs.length < 1
  · have HR : Hid (∀ w', w' = w → NewL w zs (.returned (.tuple #[.pointer none, .int .i64 210])) w') := fun w' e => by
      subst e
      exact ⟨World.grownBy.refl _ _, .inl ⟨newB_short (.inl h1), rfl⟩⟩
    have h1' : (zs.length : Int) < 1 := by omega
    clear ha hi hz0 hz1 hz2 h1
    go_enter Try.func9, Try.ntmps9
    go_wp2
    go_ret2
    exact HR.out _ rfl
  · by_cases h2 : 17 < zs.length
    · have HR : Hid (∀ w', w' = w → NewL w zs (.returned (.tuple #[.pointer none, .int .i64 210])) w') := fun w' e => by
        subst e
        exact ⟨World.grownBy.refl _ _, .inl ⟨newB_short (.inr h2), rfl⟩⟩
      have h1' : ¬ (zs.length : Int) < 1 := by omega
      have h2' : (17 : Int) < zs.length := by omega
      clear ha hi hz0 hz1 hz2 h1 h2
      go_enter Try.func9, Try.ntmps9
      go_wp2
      go_ret2
      exact HR.out _ rfl
    · have h1' : ¬ (zs.length : Int) < 1 := by omega
      have h2' : ¬ (17 : Int) < zs.length := by omega
      have HA : Hid (CV w a (zs.map iv) ∧ 1 ≤ zs.length ∧ zs.length ≤ 17) := ⟨ha, by omega, by omega⟩
      clear ha h1 h2
      go_enter Try.func9, Try.ntmps9
      go_upto_region 3 with fail
      go_wp2_with (at_make; refine wpList_make_full _ rfl (.tmp 16) (.tmp 16) 57 rfl w.heap.size 64 i0 _ 3 Try.underlying57 hi hz0 hz1 .i64 .i64 (zs.length : Int) (zs.length : Int) zs.length rfl rfl rfl rfl ?q1 ?q2 ?q3 ?q4)
      case q1 => have := HA.out.2.2; omega
      case q2 => have := HA.out.2.2; unfold maxLen; omega
      case q4 =>
        intro w1 O K
        rw [made_q] at O
        have C1 := QBk.ofRow O
        clear O hi hz0 hz1 hz2 i0
        go_upto_region 4 with fail
        have G2 := World.grownBy_alloc w1 (.cells #[.slice (some ⟨w.heap.size, 0, none⟩) zs.length zs.length] 59) none
        have L0 : LqAt (w1.alloc (.cells #[.slice (some ⟨w.heap.size, 0, none⟩) zs.length zs.length] 59)) w.heap.size ⟨w1.heap.size, w.heap.size, csNew zs 0⟩ := by
          have e0 : csNew zs 0 = List.replicate zs.length c00 := by simp [csNew]
          have B := QBk.alloc w1 59 #[.slice (some ⟨w.heap.size, 0, none⟩) zs.length zs.length]
          refine ⟨by simpa [Lq.sv, e0] using B, by simpa [e0] using C1.keptNone G2, by simpa [e0] using hl_new _ _ _, ⟨K.size, Nat.le_refl _, Nat.le_trans K.size G2.size⟩, by simpa [e0] using HA.out.2.2, fun c hc => ?_⟩
          simp only [e0] at hc
          obtain rfl := (List.mem_replicate.1 hc).2
          exact ⟨by decide, by decide, by decide⟩
        have G0 := grown_trans K G2
        have HS : Hid (w1.heap.size < (w1.alloc (.cells #[.slice (some ⟨w.heap.size, 0, none⟩) zs.length zs.length] 59)).heap.size) := L0.blk.lt
        generalize w1.alloc (.cells #[.slice (some ⟨w.heap.size, 0, none⟩) zs.length zs.length] 59) = w2 at *
        generalize hg : w1.heap.size = g at *
        generalize hgc : w.heap.size = gc at *
        clear C1 K G2 HS
        go_wp2
        go_loopw [22] (fun i wr => ∃ k : Nat, k ≤ zs.length ∧ i = .int .i64 k ∧ LqAt wr gc ⟨g, gc, csNew zs k⟩ ∧ w.grownBy wr none ∧ (∀ j (hj : j < zs.length), j < k → 1 ≤ zs[j] ∧ zs[j] ≤ 1024)) (fun i _ => zs.length - (intOf i).toNat)
        case atStart => exact ⟨0, Nat.zero_le _, rfl, L0, G0, fun j _ hj => by omega⟩
        case round =>
          clear L0 G0
          obtain ⟨k, hk, rfl, L, G, HB⟩ := hrel
          by_cases hlt : k < zs.length
          · obtain ⟨b, o, rfl, hc⟩ := HA.out.1.ints hlt
            have hc0 := G.cell (hc k hlt) (by simp)
            clear hc
            have HK : Hid (LqAt wr gc ⟨g, gc, csNew zs k⟩ ∧ w.grownBy wr none ∧ (∀ j (hj : j < zs.length), j < k → 1 ≤ zs[j] ∧ zs[j] ≤ 1024)) := ⟨L, G, HB⟩
            by_cases hb1 : zs[k] < 1
            · have HR : Hid (NewL w zs (.returned (.tuple #[.pointer none, .int .i64 210])) wr) := ⟨G, .inl ⟨newB_bad hlt (.inl hb1), rfl⟩⟩
              have hli : (k : Int) < (zs.length : Int) := by omega
              clear L G HB HK
              generalize zs[k] = z at *
              go_wp2
              go_ret2
              exact HR.out
            · by_cases hb2 : 1024 < zs[k]
              · have HR : Hid (NewL w zs (.returned (.tuple #[.pointer none, .int .i64 210])) wr) := ⟨G, .inl ⟨newB_bad hlt (.inr hb2), rfl⟩⟩
                have hli : (k : Int) < (zs.length : Int) := by omega
                clear L G HB HK
                generalize zs[k] = z at *
                go_wp2
                go_ret2
                exact HR.out
              · have c0 := L.cell0
                simp only [Lq.sv, csNew_len zs k hk] at c0
                have c1 := L.depc (csNew_at zs k hlt)
                have f1 := L.free (k * 3 + 1)
                have L2 := L.deps (csNew_at zs k hlt) zs[k].toNat (by omega)
                have ez : ((zs[k].toNat : Nat) : Int) = zs[k] := by omega
                rw [ez] at L2
                have eq2 : (Lq.with ⟨g, gc, csNew zs k⟩ k ⟨zs[k].toNat, c00.lost, c00.h, c00.fs⟩) = ⟨g, gc, csNew zs (k + 1)⟩ := by
                  unfold Lq.with
                  rw [← csNew_set zs k hlt]
                  rfl
                rw [eq2] at L2
                have HK2 : Hid (LqAt (wr.setCell ⟨gc, k * 3 + 1, none⟩ (.int .i64 zs[k])) gc ⟨g, gc, csNew zs (k + 1)⟩ ∧ w.grownBy (wr.setCell ⟨gc, k * 3 + 1, none⟩ (.int .i64 zs[k])) none ∧ (∀ j (hj : j < zs.length), j < k + 1 → 1 ≤ zs[j] ∧ zs[j] ≤ 1024)) := by
                  refine ⟨L2, grown_setCell G _ _ (.inr (by rw [← hgc]; exact Nat.le_refl _)), fun j hj hjk => ?_⟩
                  by_cases e : j = k
                  · subst e
                    omega
                  · exact HB j hj (by omega)
                have hli : (k : Int) < (zs.length : Int) := by omega
                clear L G HB HK L2 eq2 ez
                generalize zs[k] = z at *
                go_wp2
                go_roundw
                case rel => exact ⟨k + 1, by omega, by go_num, HK2.out.1, HK2.out.2.1, HK2.out.2.2⟩
                case measure => simp [intOf]; omega
          · obtain rfl : k = zs.length := by omega
            have HR : Hid (NewL w zs (.returned (.tuple #[.pointer (some ⟨g, 0, none⟩), .int .i64 0])) wr) :=
              ⟨G, .inr ⟨newB_ok HA.out.2 (fun j hj => HB j hj hj), ⟨g, gc, csNew zs zs.length⟩, rfl, by rw [hgc]; exact L, csNew_all zs⟩⟩
            clear L G HB
            go_wp2
            go_ret2
            exact HR.out

/-- How many were dropped. -/
theorem ldropped_any (g o n : Nat) (w : World) (hc : w.cell? ⟨g, o, none⟩ = some (.int .u32 (n : Int))) :
    Calls Try.prog 38 #[.pointer (some ⟨g, o, none⟩)] w fun e w' => e = .returned (.int .u32 (n : Int)) ∧ w = w' := by
  go_enter Try.func38, Try.ntmps38
  go_wp2
  go_ret
  exact ⟨rfl, rfl⟩

end Go.Proofs.Ytlfjpbedjmnpaaa
