/-
  riddlelaw21.told: one call of both queues.
-/
import Derived.Test.YtlfjpbedjmnpaaaQuU
import Derived.Test.YtlfjpbedjmnpaaaQuW
import Derived.Test.YtlfjpbedjmnpaaaLSame
namespace Go.Proofs.Ytlfjpbedjmnpaaa
open Go.RowKit
set_option maxRecDepth 100000

/-- The landed queue and the document's own, side by side. -/
structure Two (w : World) (base : Nat) (q : Lq) (r : Rq) : Prop where
  la : LqAt w base q
  ra : RqAt w base r
  abs : q.abs = r.abs
  dis : ∀ x, q.foot x → ¬ r.foot x
  ok : ∀ b ∈ allP q.abs, b.length ≤ 65535

theorem Two.keptNone {w w' : World} {base : Nat} {q : Lq} {r : Rq} (h : Two w base q r) (G : w.grownBy w' none) : Two w' base q r := ⟨h.la.keptNone G, h.ra.keptNone G, h.abs, h.dis, h.ok⟩
theorem Two.gw {w w' : World} {base : Nat} {q : Lq} {r : Rq} {S : Nat → Prop} (h : Two w base q r) (G : GW w w' S) (h1 : ∀ x, q.foot x → ¬ S x) (h2 : ∀ x, r.foot x → ¬ S x) : Two w' base q r := ⟨h.la.gw G h1, h.ra.gw G h2, h.abs, h.dis, h.ok⟩

/-- A call of the one, then a call of the other. -/
theorem Two.both {w w1 w2 : World} {base : Nat} {q q' : Lq} {r r' : Rq} (h : Two w base q r) (L : LqAt w1 base q') (G : GW w w1 q.foot) (F : Foots w q.foot q'.foot) (R : RqAt w2 base r') (G2 : GW w1 w2 r.foot) (F2 : Foots w1 r.foot r'.foot) (ha : q'.abs = r'.abs) (hk : ∀ b ∈ allP q'.abs, b.length ≤ 65535) :
    Two w2 base q' r' ∧ GW w w2 (fun x => q.foot x ∨ r.foot x) ∧ Foots w r.foot r'.foot ∧ ∀ x, q.foot x ∨ (w.heap.size ≤ x ∧ x < w1.heap.size) → ¬ r'.foot x := by
  have d1 : ∀ x, q'.foot x → ¬ r.foot x := fun x hx hr => (F x hx).elim (fun h1 => h.dis x h1 hr) (fun h1 => by have := (h.ra.lt x hr).2; omega)
  have d2 : ∀ x, q.foot x ∨ (w.heap.size ≤ x ∧ x < w1.heap.size) → ¬ r'.foot x := fun x hx hr => by
    rcases F2 x hr with h1 | h1
    · rcases hx with h2 | h2
      · exact h.dis x h2 h1
      · have := (h.ra.lt x h1).2; omega
    · rcases hx with h2 | h2
      · have := (h.la.lt x h2).2; have := G.size; omega
      · omega
  refine ⟨⟨L.gw G2 d1, R, ha, fun x hx => ?_, hk⟩, ?_, h1, d2⟩
  · refine d2 x ?_
    rcases F x hx with h1 | h1
    · exact .inl h1
    · exact .inr ⟨h1, (L.lt x hx).2⟩
  · exact (G.mono (fun x _ hx => .inl hx)).trans G2 (fun x _ hx => .inr hx)
  where
  h1 : Foots w r.foot r'.foot := fun x hx => (F2 x hx).elim .inl (fun h1 => .inr (Nat.le_trans G.size h1))

theorem Two.left {w w1 : World} {base : Nat} {q : Lq} {r : Rq} (h : Two w base q r) (G : GW w w1 q.foot) : RqAt w1 base r := h.ra.gw G (fun x hx hq => h.dis x hq hx)

/-- What told leaves. -/
def ToldP (w : World) (base : Nat) (q : Lq) (r : Rq) (e : Ending) (w' : World) : Prop :=
  e = .returned (.bool true) ∧ ∃ q' : Lq, ∃ r' : Rq, Two w' base q' r' ∧ q'.g = q.g ∧ r'.g = r.g ∧ GW w w' (fun x => q.foot x ∨ r.foot x) ∧ Foots w q.foot q'.foot ∧ Foots w r.foot r'.foot

theorem ToldP.back {w w0 w' : World} {base : Nat} {q : Lq} {r : Rq} {e : Ending} (K : w.grownBy w0 none) (h : ToldP w0 base q r e w') : ToldP w base q r e w' := by
  obtain ⟨rfl, q', r', T, h1, h2, G, F1, F2⟩ := h
  refine ⟨rfl, q', r', T, h1, h2, (GW.non (S := fun x => q.foot x ∨ r.foot x) K).trans G (fun x _ hx => hx), fun x hx => (F1 x hx).elim .inl (fun h => .inr (Nat.le_trans K.size h)), fun x hx => (F2 x hx).elim .inl (fun h => .inr (Nat.le_trans K.size h))⟩

theorem take_ok {cs ds : List Qc} {n : Nat} {b : List UInt8} (h : takeP cs = some (n, b, ds)) (hk : ∀ b ∈ allP cs, b.length ≤ 65535) : b.length ≤ 65535 ∧ ∀ b ∈ allP ds, b.length ≤ 65535 := by
  obtain ⟨h1, -⟩ := take_yes _ _ _ _ h
  rw [h1] at hk
  exact ⟨hk _ (List.mem_cons_self ..), fun c hc => hk c (List.mem_cons_of_mem _ hc)⟩

/-- Behind what is spoilt: blocks that neither queue holds. -/
theorem told_end {w w2 w3 : World} {base : Nat} {q q' : Lq} {r r' : Rq} {S : Nat → Prop} (T : Two w2 base q' r') (hg : q'.g = q.g) (hr : r'.g = r.g) (G : GW w w2 (fun x => q.foot x ∨ r.foot x)) (F1 : Foots w q.foot q'.foot) (F2 : Foots w r.foot r'.foot) (G3 : GW w2 w3 S) (hS : ∀ x, S x → (x < w.heap.size → q.foot x ∨ r.foot x) ∧ ¬ q'.foot x ∧ ¬ r'.foot x) : ToldP w base q r (.returned (.bool true)) w3 :=
  ⟨rfl, q', r', T.gw G3 (fun x hx hs => (hS x hs).2.1 hx) (fun x hx hs => (hS x hs).2.2 hx), hg, hr, G.trans G3 (fun x hl hs => (hS x hs).1 hl), F1, F2⟩

set_option maxHeartbeats 4000000 in
theorem told0_any (base : Nat) (q : Lq) (r : Rq) (cl : Int) (a : Option Addr) (n ca : Nat) (w : World) (h : Two w base q r) :
    Calls Try.prog 13 #[.pointer (some ⟨q.g, 0, none⟩), .pointer (some ⟨r.g, 0, none⟩), .agg #[.int .i64 0, .int .i64 cl, .slice a n ca]] w (ToldP w base q r) := by
  have K0 := World.grownBy_alloc w (.cells #[.int .i64 0, .int .i64 cl, .slice a n ca] 37) none
  have B0 := QBk.alloc w 37 #[.int .i64 0, .int .i64 cl, .slice a n ca]
  have x0 := B0.cell 0
  have HT : Hid (Two (w.alloc (.cells #[.int .i64 0, .int .i64 cl, .slice a n ca] 37)) base q r) := h.keptNone K0
  have HB : Hid (∀ e w', ToldP (w.alloc (.cells #[.int .i64 0, .int .i64 cl, .slice a n ca] 37)) base q r e w' → ToldP w base q r e w') := fun e w' => ToldP.back K0
  clear h K0 B0
  go_enter Try.func13, Try.ntmps13
  go_upto_region 1 with fail
  generalize w.alloc (.cells #[.int .i64 0, .int .i64 cl, .slice a n ca] 37) = w0 at *
  have CT := lqtake_any base q w0 HT.out.la
  go_wp2_with fail
  refine CT.mono ?_
  rintro e w1 T
  clear CT x0
  rcases T with ⟨t0, rfl, rfl⟩ | ⟨m, v, b, q', t0, rfl, L, hg, G, F, O, hp⟩
  · have CR := rqtake_any base r w1 HT.out.ra
    have t1 := t0
    rw [HT.out.abs] at t1
    have HT0 : Hid (takeP r.abs = none) := t1
    clear t0 t1
    go_wp2_with fail
    refine CR.mono ?_
    rintro e w2 T
    clear CR
    rcases T with ⟨t2, rfl, K⟩ | ⟨m2, v2, b2, r', t2, rfl, -⟩
    · have CS : Calls Try.prog 19 #[.slice none 0 0, .slice none 0 0] w2 fun e w' => e = .returned (.bool true) ∧ ∃ n, w' = w2.drewN n := same_any none none 0 0 [] w2 ⟨fun _ => rfl, fun ad had => (by cases had)⟩ ⟨fun _ => rfl, fun ad had => (by cases had)⟩ (by simp)
      have HK : Hid (w1.grownBy w2 none) := K
      clear t2 K
      go_wp2_with fail
      refine CS.mono ?_
      rintro e w3 ⟨rfl, n3, rfl⟩
      clear CS
      go_wp2_with fail
      refine (spoil_nil _).mono ?_
      rintro e w4 ⟨rfl, K4⟩
      have KK : w1.grownBy w4 none := grown_trans HK.out (grown_trans (grown_drewN w2 n3 none) K4)
      have HE : Hid (ToldP w base q r (.returned (.bool true)) w4) := HB.out _ _ (⟨rfl, q, r, HT.out.keptNone KK, rfl, rfl, GW.non KK, Foots.refl _ _, Foots.refl _ _⟩ : ToldP w1 base q r (.returned (.bool true)) w4)
      clear K4 HK KK
      go_wp2
      go_ret
      exact HE.out
    · rw [HT0.out] at t2
      cases t2
  · have CR := rqtake_any base r w1 (HT.out.left G)
    have t1 := t0
    rw [HT.out.abs] at t1
    obtain ⟨av, cv, hv, C1, -⟩ := O.shape
    subst hv
    have HL : Hid (takeP q.abs = some (m, b, q'.abs) ∧ takeP r.abs = some (m, b, q'.abs) ∧ LqAt w1 base q' ∧ q'.g = q.g ∧ GW w0 w1 q.foot ∧ Foots w0 q.foot q'.foot ∧ Owns w1 base (.slice av b.length cv) b ∧ ∀ x, (Value.slice av b.length cv).ownBlock = some x → q.foot x ∧ ¬ q'.foot x) := ⟨t0, t1, L, hg, G, F, O, hp⟩
    clear t0 t1 L hg G F O hp C1
    go_wp2_with fail
    refine CR.mono ?_
    rintro e w2 T
    clear CR
    rcases T with ⟨t2, rfl, K⟩ | ⟨m2, v2, b2, r', t2, rfl, R, hg, G, F, O2, hp2⟩
    · rw [HL.out.2.1] at t2
      cases t2
    · have t3 := t2
      rw [HL.out.2.1] at t3
      simp only [Option.some.injEq, Prod.mk.injEq] at t3
      obtain ⟨rfl, rfl, hab⟩ := t3
      obtain ⟨hb1, hok⟩ := take_ok HL.out.1 HT.out.ok
      obtain ⟨T2, GG, FF, dd⟩ := HT.out.both HL.out.2.2.1 HL.out.2.2.2.2.1 HL.out.2.2.2.2.2.1 R G F hab hok
      have O1 : Owns w2 base (.slice av b.length cv) b := G.row HL.out.2.2.2.2.2.2.1 (fun x hx hr => HT.out.dis x (HL.out.2.2.2.2.2.2.2 x hx).1 hr)
      obtain ⟨av2, cv2, hv2, C2, -⟩ := O2.shape
      obtain ⟨av', cv', hv1, C1, -⟩ := O1.shape
      simp only [Value.slice.injEq, true_and] at hv1
      obtain ⟨rfl, rfl⟩ := hv1
      subst hv2
      have CS := same_any av av2 cv cv2 b w2 C1 C2 (by omega)
      have HE : Hid (∀ n w4, (w2.drewN n).grownBy w4 (Value.slice av b.length cv).ownBlock → ToldP w base q r (.returned (.bool true)) w4) := fun n w4 K4 => by
        refine HB.out _ _ (told_end (S := fun x => (Value.slice av b.length cv).ownBlock = some x) T2 HL.out.2.2.2.1 hg GG HL.out.2.2.2.2.2.1 FF (GW.of (grown_trans (grown_drewN w2 n _) K4) (fun x hx => hx)) (fun x hx => ?_))
        obtain ⟨h1, h2⟩ := HL.out.2.2.2.2.2.2.2 x hx
        exact ⟨fun _ => .inl h1, h2, dd x (.inl h1)⟩
      have HO : Hid (Owns w2 base (.slice av b.length cv) b ∧ b.length ≤ 65535) := ⟨O1, hb1⟩
      clear t2 R hg G F O2 hp2 T2 GG FF dd O1 C1 C2 HL hab hok hb1
      go_wp2_with fail
      refine CS.mono ?_
      rintro e w3 ⟨rfl, n3, rfl⟩
      clear CS
      have SP := spoil_own (w2.drewN n3) (owns_keptNone HO.out.1 (grown_drewN _ _ none)) (by have := HO.out.2; omega)
      go_wp2_with fail
      refine SP.mono ?_
      rintro e w4 ⟨rfl, K4⟩
      have HF : Hid (ToldP w base q r (.returned (.bool true)) w4) := HE.out _ _ K4
      clear SP K4 HE
      go_wp2
      go_ret
      exact HF.out

end Go.Proofs.Ytlfjpbedjmnpaaa
