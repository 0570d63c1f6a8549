/-
  Package bundle as landed: Feed.
-/
import Derived.Test.YtkjofgnmjfngeaaBundleD
import Derived.Test.YtkjofgnmjfngeaaLotBundleLost16
namespace Go.Proofs.Ytkjofgnmjfngeaa
open Go.RowKit
set_option maxRecDepth 100000

/-- What Feed leaves: the answer, the bundle, and what may have been written. -/
def FeedB (w : World) (base g : Nat) (l : Lk) (v : Value) (r : Bs × List UInt8 × Bool) (er : Int) (e : Ending) (w' : World) : Prop :=
  ∃ x v', e = .returned (.tuple #[x, .bool r.2.2, .int .i64 er]) ∧ Owns w' w.heap.size x r.2.1 ∧ BNv w' base g l r.1 v' ∧ (∀ y, v'.ownBlock = some y → w.heap.size ≤ y ∨ v.ownBlock = some y) ∧ (∀ y, x.ownBlock = some y → y ≠ g ∧ v'.ownBlock ≠ some y) ∧ GB w w' (fun i => i = g ∨ v.ownBlock = some i)

theorem BNv.link {w : World} {base g : Nat} {l : Lk} {u : Bs} {v : Value} (h : BNv w base g l u v) : w.rangeAt g 2 (lkA l).toList := by
  intro j x hx
  have := h.1.cell (2 + j)
  rw [this]
  have hj : j < 3 := by
    have := (List.getElem?_eq_some_iff.1 hx).1
    simpa [lkA] using this
  have hs : j = 0 ∨ j = 1 ∨ j = 2 := by omega
  rcases hs with rfl | rfl | rfl <;> exact hx

theorem piece_look {l : Lk} {b : List UInt8} {e : Int} (h : lookP l b = .error e) : (e != 0) = true := by
  unfold lookP at h
  rcases except_cases (pieceV l b) with ⟨e', hp⟩ | ⟨pv, hp⟩
  · rw [bind_err hp] at h
    cases h
    exact piece_er9 hp
  · rw [bind_of hp] at h
    split at h
    · cases h
    · cases h
      rfl

set_option maxRecDepth 100000 in
set_option maxHeartbeats 4000000 in
theorem bfeed_err (base g : Nat) (l : Lk) (u : Bs) (v : Value) (a : Option Addr) (ca : Nat) (b : List UInt8) (er : Int) (w : World) (hm : l.mp = 1 ∨ l.mp = 2) (hb : BNv w base g l u v) (ha : Cells w a b) (hn : b.length ≤ 140737488355328) (he : lookP l b = .error er) :
    Calls Try.prog 9 #[.pointer (some ⟨g, 0, none⟩), .slice a b.length ca] w fun e w' => FeedB w base g l v (u, [], false) er e w' := by
  have CP := blook_any l a ca b w hm ha hn
  rw [he] at CP
  simp only [exV, exE, vwA, Vw.zero] at CP
  have RV := hb.link
  have HL : Hid ((Try.prog.info? 26).map (·.size) = some (lkA l).size) := size26
  have HB : Hid (BNv w base g l u v) := hb
  have hz := piece_look he
  clear hb ha he hm
  go_enter Try.func9, Try.ntmps9
  go_wp2_with (refine wpList_load_mid rfl 26 (.tmp 13) rfl g 2 rfl (lkA l).toList _ RV Try.underlying26 rfl HL.out ?_)
  refine CP.mono ?_
  rintro e w1 ⟨rfl, K1⟩
  clear CP RV
  go_wp2
  go_ret3
  have G : w.grownBy (w1.alloc (.cells #[.int .u32 0, .bool false, .bool false, .bool false, .int .u32 0, .int .i64 0, .int .i64 0, .int .i64 0, .int .i64 0] 58)) none := grown_trans K1 (World.grownBy_alloc _ _ _)
  exact ⟨_, v, rfl, World.ownsRow_nil _ _ _ _, ⟨HB.out.1.kept G, owns_keptNone HB.out.2 G⟩, (fun y hy => .inr hy), (fun y hy => by cases hy), GB.non G⟩

set_option maxRecDepth 100000 in
set_option maxHeartbeats 4000000 in
theorem bfeed_ok (base g : Nat) (l : Lk) (u : Bs) (v : Value) (a : Option Addr) (ca : Nat) (b : List UInt8) (pr : Nat) (be fi : Bool) (sq po ne nx lo : Nat) (w : World) (hm : l.mp = 1 ∨ l.mp = 2) (hb : BNv w base g l u v) (ha : Cells w a b) (hc0 : a = none → ca = 0) (hca : b.length ≤ ca) (hn : b.length ≤ 140737488355328)
    (hap : ∀ ad, a = some ad → b ≠ [] → ad.block ≠ g ∧ v.ownBlock ≠ some ad.block) (hp : pieceV l b = .ok ⟨pr, true, be, fi, sq, po, ne, nx, lo⟩) (hh : u.has.length ≤ 65535) (hbase : base ≤ w.heap.size) :
    Calls Try.prog 9 #[.pointer (some ⟨g, 0, none⟩), .slice a b.length ca] w fun e w' => FeedB w base g l v (fedV (spV l) u sq be fi (b.drop po)) 0 e w' := by
  have CP := blook_any l a ca b w hm ha (by omega)
  have hlk : lookP l b = .ok ⟨pr, true, be, fi, sq, po, ne, nx, lo⟩ := by unfold lookP; rw [bind_of hp, if_pos rfl]
  rw [hlk] at CP
  simp only [exV, exE, vwA] at CP
  have hpo := (piece_ok hp).2.2.2.2.2.1
  have hsq := ((piece_ok hp).2.2.2.2.2.2.2.2.2 rfl).2
  have hbl := (piece_ok hp).1
  simp only at hpo hsq
  have hpo1 := (piece_ok hp).2.2.2.2.1
  simp only at hpo1
  obtain ⟨bb, ob, rfl, -⟩ := ha.addr (k := 0) (by omega)
  obtain ⟨ad, had⟩ : ∃ ad : Addr, (if ca = po then (some ⟨bb, ob, none⟩ : Option Addr) else some ⟨bb, ob + po, none⟩) = some ad := by split <;> exact ⟨_, rfl⟩
  have HAD : Hid ((if ca = po then (some ⟨bb, ob, none⟩ : Option Addr) else some ⟨bb, ob + po, none⟩) = some ad) := had
  have HDP : Hid (∀ wx, Cells wx (some ⟨bb, ob, none⟩) b → Cells wx (some ad) (b.drop po)) := fun wx h => by
    have q := drop_any (k := po) h hpo hca
    rw [show Option.map (fun x : Addr => x.add po) (some ⟨bb, ob, none⟩) = some ⟨bb, ob + po, none⟩ from congrArg some (Addr.add_lit _ _ _), HAD.out] at q
    exact q
  clear had hpo1 hlk
  have RV := hb.link
  have HL : Hid ((Try.prog.info? 26).map (·.size) = some (lkA l).size) := size26
  have HA : Hid (Cells w (some ⟨bb, ob, none⟩) b ∧ ∀ ad, (some ⟨bb, ob, none⟩ : Option Addr) = some ad → b ≠ [] → ad.block ≠ g ∧ v.ownBlock ≠ some ad.block) := ⟨ha, hap⟩
  have HB : Hid (BNv w base g l u v) := hb
  have hspl : spV l ≤ 16777216 := by unfold spV; split <;> omega
  have HSQ : Hid (sq < 4294967295) := by show sq < 4294967295; omega
  obtain ⟨ans, hans⟩ : ∃ ans, fedV (spV l) u sq be fi (b.drop po) = ans := ⟨_, rfl⟩
  rw [hans]
  have HANS : Hid (fedV (spV l) u sq be fi (b.drop po) = ans) := hans
  clear hb ha hp hap hans hm hspl
  go_enter Try.func9, Try.ntmps9
  go_wp2_with (refine wpList_load_mid rfl 26 (.tmp 13) rfl g 2 rfl (lkA l).toList _ RV Try.underlying26 rfl HL.out ?_)
  refine CP.mono ?_
  rintro e w1 ⟨rfl, K1⟩
  clear CP RV HL
  obtain ⟨pa, hpa⟩ : ∃ pa : Array Value, #[.int .u32 (pr : Int), .bool true, .bool be, .bool fi, .int .u32 (sq : Int), .int .i64 (po : Int), .int .i64 (ne : Int), .int .i64 (nx : Int), .int .i64 (lo : Int)] = pa := ⟨_, rfl⟩
  have KV := World.grownBy_alloc w1 (.cells pa 58) none
  have F0 : BF w base g w1.heap.size l v pa u.nxt u.opn u.has v (w1.alloc (.cells pa 58)) :=
    ⟨(HB.out.1.kept K1).kept KV, owns_keptNone (owns_keptNone HB.out.2 K1) KV, (fun y hy => .inr hy), VAt.alloc w1 _ _, GB.non (grown_trans K1 KV)⟩
  have HPA : Hid (#[.int .u32 (pr : Int), .bool true, .bool be, .bool fi, .int .u32 (sq : Int), .int .i64 (po : Int), .int .i64 (ne : Int), .int .i64 (nx : Int), .int .i64 (lo : Int)] = pa) := hpa
  have HV : Hid (w.heap.size ≤ w1.heap.size) := K1.size
  clear hpa
  go_upto_region 4 with fail
  rw [HPA.out]
  generalize w1.alloc (.cells pa 58) = w2 at *
  generalize w1.heap.size = V at *
  clear K1 KV HB
  have HPC : Hid (∀ wx nx o h vv, BF w base g V l v pa nx o h vv wx → wx.cell? ⟨V, 2, none⟩ = some (.bool be) ∧ wx.cell? ⟨V, 3, none⟩ = some (.bool fi) ∧ wx.cell? ⟨V, 4, none⟩ = some (.int .u32 (sq : Int)) ∧ wx.cell? ⟨V, 5, none⟩ = some (.int .i64 (po : Int))) := fun wx nx o h vv F => by
    have q := F.2.2.2.1
    rw [← HPA.out] at q
    exact ⟨q.cell 2, q.cell 3, q.cell 4, q.cell 5⟩
  obtain ⟨c2, c3, c4, c5⟩ := HPC.out _ _ _ _ _ F0
  obtain ⟨o1, ho1⟩ : ∃ o1, (if sq = u.nxt then u.opn else false) = o1 := ⟨_, rfl⟩
  obtain ⟨h1, hh1⟩ : ∃ h1, (if sq = u.nxt then u.has else []) = h1 := ⟨_, rfl⟩
  have HO1 : Hid ((if sq = u.nxt then u.opn else false) = o1 ∧ (if sq = u.nxt then u.has else []) = h1) := ⟨ho1, hh1⟩
  obtain ⟨nn, hnn⟩ : ∃ nn, (sq + 1) % spV l = nn := ⟨_, rfl⟩
  have HNN : Hid ((sq + 1) % spV l = nn) := hnn
  clear ho1 hh1 hnn
  have HF0 : Hid (BF w base g V l v pa u.nxt u.opn u.has v w2) := F0
  have HPS : Hid (∀ W, BF w base g V l v pa u.nxt u.opn u.has v W → Calls Try.prog 17 #[.pointer (some ⟨g, 0, none⟩), .int .u32 (sq : Int)] W fun e w' => e = .returned (.bool (decide (sq = u.nxt))) ∧ BF w base g V l v pa nn u.opn u.has v w') := fun W F => by
    refine (pass_any l g sq u.nxt W HSQ.out (F.c 0) (F.c 1) (F.f 0)).mono ?_
    rintro e w' ⟨rfl, rfl⟩
    refine ⟨rfl, ?_⟩
    rw [HNN.out]
    exact F.nxt nn
  clear F0 hsq
  obtain ⟨dq, hdq⟩ : ∃ dq, decide (sq = u.nxt) = dq := ⟨_, rfl⟩
  have HDQ : Hid (decide (sq = u.nxt) = dq) := hdq
  rw [hdq] at HPS
  clear hdq
  go_cut [28] from 22 to 27 (fun t wx => t = .bool (!dq) ∧ BF w base g V l v pa nn u.opn u.has v wx)
  case first =>
    go_region_with (go_at_call 17; refine (HPS.out _ (by first | exact HF0.out | exact HF0.out.kept (grown_drewN w2 1 none))).mono ?_; rintro e w5 ⟨rfl, F5⟩)
    all_goals
      have HF5 : Hid (BF w base g V l v pa nn u.opn u.has v w5) := F5
      clear F5 c2 c3 c4 c5
      go_wp2
      go_meet
      exact ⟨rfl, HF5.out⟩
  case rest =>
  obtain ⟨rfl, F1⟩ := hcut
  generalize hw3 : wc = w3 at *
  clear hw3 HF0 HPS c2 c3 c4 c5
  go_upto_if 28 with fail
  go_cut [5, 28] from 29 to 30 (fun t _ wx => t = .bool false ∧ ∃ vv, BF w base g V l v pa nn o1 h1 vv wx)
  case first =>
    by_cases hs : sq = u.nxt
    · obtain ⟨e1, e2⟩ := HO1.out
      rw [if_pos hs] at e1 e2
      subst e1 e2
      have hdq := HDQ.out
      rw [decide_eq_true hs] at hdq
      subst hdq
      have HF5 : Hid (BF w base g V l v pa nn u.opn u.has v w3) := F1
      clear F1 hs
      go_wp2
      go_meet
      exact ⟨rfl, _, HF5.out⟩
    · obtain ⟨e1, e2⟩ := HO1.out
      rw [if_neg hs] at e1 e2
      subst e1 e2
      have hdq := HDQ.out
      rw [decide_eq_false hs] at hdq
      subst hdq
      have CF := forget_any F1
      clear F1 hs
      go_wp2_with fail
      refine CF.mono ?_
      rintro e w6 ⟨rfl, vv, F6, -⟩
      have HF6 : Hid (BF w base g V l v pa nn false [] vv w6) := F6
      clear CF F6
      go_wp2
      go_meet
      exact ⟨rfl, _, HF6.out⟩
  case rest =>
    obtain ⟨rfl, vv, F2⟩ := hcut
    generalize hw4 : wc = w4 at *
    clear hw4 F1
    obtain ⟨o2, ho2⟩ : ∃ o2, (be || o1) = o2 := ⟨_, rfl⟩
    obtain ⟨hm, hhm⟩ : ∃ hm, (if be = true then [] else h1) = hm := ⟨_, rfl⟩
    have HO2 : Hid ((be || o1) = o2 ∧ (if be = true then [] else h1) = hm) := ⟨ho2, hhm⟩
    clear ho2 hhm
    obtain ⟨c2, c3, c4, c5⟩ := HPC.out _ _ _ _ _ F2
    go_upto_if 32 with fail
    go_cut [5, 32] from 33 to 37 (fun t _ wx => t = .bool false ∧ ∃ vv, BF w base g V l v pa nn o2 hm vv wx)
    case first =>
      cases hbe : be with
      | false =>
        rw [hbe] at HO2
        obtain ⟨e1, e2⟩ := HO2.out
        rw [Bool.false_or] at e1
        rw [if_neg (by simp)] at e2
        subst e1 e2
        have HF2 : Hid (BF w base g V l v pa nn o1 h1 vv w4) := F2
        clear F2 c2 c3 c4 c5
        go_wp2
        go_meet
        exact ⟨rfl, _, HF2.out⟩
      | true =>
        rw [hbe] at HO2
        obtain ⟨e1, e2⟩ := HO2.out
        rw [Bool.true_or] at e1
        rw [if_pos rfl] at e2
        subst e1 e2
        have CF := forget_any F2
        clear F2 c2 c3 c4 c5
        go_wp2_with fail
        refine CF.mono ?_
        rintro e w6 ⟨rfl, vw, F6, -⟩
        have m5 : w6.cell? ⟨g, 5, none⟩ = some (.bool false) := F6.c 5
        have f5 := F6.f 5
        have HF6 : Hid (BF w base g V l v pa nn true [] vw (w6.setCell ⟨g, 5, none⟩ (.bool true))) := F6.opn true
        clear CF F6
        go_wp2
        go_meet
        exact ⟨rfl, _, HF6.out⟩
    case rest =>
      obtain ⟨rfl, vv2, F3⟩ := hcut
      generalize hw6 : wc = w6 at *
      clear hw6 F2 c2 c3 c4 c5
      obtain ⟨c2, c3, c4, c5⟩ := HPC.out _ _ _ _ _ F3
      obtain ⟨h2, hh2⟩ : ∃ h2, (if o2 = true then hm ++ b.drop po else hm) = h2 := ⟨_, rfl⟩
      have HH2 : Hid ((if o2 = true then hm ++ b.drop po else hm) = h2) := hh2
      clear hh2
      have m5 : w6.cell? ⟨g, 5, none⟩ = some (.bool o2) := F3.c 5
      go_upto_if 41 with fail
      go_cut [5, 41] from 42 to 53 (fun t _ wx => t = .bool false ∧ ∃ vv, BF w base g V l v pa nn o2 h2 vv wx)
      case first =>
        have HF3 : Hid (BF w base g V l v pa nn o2 hm vv2 w6) := F3
        cases ho : o2 with
        | false =>
          rw [if_neg (by rw [ho]; simp)] at HH2
          have e2 := HH2.out
          subst e2
          rw [ho] at m5 HF3
          clear F3
          go_wp2
          go_meet
          exact ⟨rfl, _, by rw [ho]; exact HF3.out⟩
        | true =>
          rw [if_pos ho] at HH2
          rw [ho] at m5 F3
          have m6 : w6.cell? ⟨g, 6, none⟩ = some vv2 := F3.c 6
          obtain ⟨aov, capv, rfl, -, -⟩ := F3.2.1.shape
          have HCD : Hid (Cells w6 (some ⟨bb, ob, none⟩) b) := F3.2.2.2.2.cells HA.out.1 (fun ad e hb => by
            obtain ⟨q1, q2⟩ := HA.out.2 ad e hb
            exact fun hh => hh.elim q1 q2)
          obtain ⟨i0, hi, hz0, hz1, hz2⟩ := info_parts info5
          have z2 : (0 : Int) ≤ (po : Int) := by omega
          have z3 : (po : Int) ≤ (b.length : Int) := by omega
          have HDC : Hid (Cells w6.drew (some ad) (b.drop po)) := (HDP.out _ HCD.out).keptNone (grown_drewN w6 1 none)
          have hzz := HAD.out
          have HOV : Hid (Owns w6.drew base (.slice aov hm.length capv) hm) := owns_keptNone F3.2.1 (grown_drewN w6 1 none)
          have hdl : b.length - po = (b.drop po).length := by rw [List.length_drop]
          have HDL : Hid ((b.drop po).length ≤ 65535) := by show (b.drop po).length ≤ 65535; rw [List.length_drop]; omega
          have HH1 : Hid (hm.length ≤ 65535) := by
            show hm.length ≤ 65535
            rw [← HO2.out.2]
            split
            · simp
            · rw [← HO1.out.2]
              split
              · exact hh
              · simp
          have HF3d : Hid (BF w base g V l v pa nn true hm (.slice aov hm.length capv) w6.drew) := F3.kept (grown_drewN w6 1 none)
          have HLY : Hid (∀ y9 : Value, (y9.ownBlock = (Value.slice aov hm.length capv).ownBlock ∨ y9.ownBlock = some w6.drew.heap.size) → ∀ y, y9.ownBlock = some y → w.heap.size ≤ y ∨ v.ownBlock = some y) := fun y9 hL y hy => by
            have hsz := F3.2.2.2.2.size
            rcases hL with hL | hL
            · exact F3.2.2.1 y (by rw [← hL]; exact hy)
            · rw [hL] at hy
              cases hy
              exact .inl hsz
          have HBS : Hid (base ≤ w6.heap.size) := Nat.le_trans hbase F3.2.2.2.2.size
          clear F3 HF3 c2 c3 c4 HCD
          generalize hdd : b.drop po = dd at *
          go_upto_region 10 with fail
          go_region_law (refine step_append_at rfl (.tmp 46) (.tmp 50) 28 rfl i0 Try.underlying28 hi hz0 hz1 hz2 base (.slice aov hm.length capv) hm (by first | rfl | simp [Act.eval]) (by exact HOV.out) ad (ca - po) dd (by first | rfl | simp [Act.eval]) (by exact HDC.out) (by have := HDL.out; have := HH1.out; omega) (by exact HBS.out) ?_; intro y9 w9 O9 K9 L9; rw [HH2.out] at O9; have hx9 : ∀ y, y9.ownBlock = some y → w.heap.size ≤ y ∨ v.ownBlock = some y := HLY.out y9 L9; obtain ⟨F10, s5, t5⟩ := HF3d.out.app K9 O9 hx9; obtain ⟨ao9, cap9, hy9, -, -⟩ := O9.shape; subst hy9)
          all_goals
            have HF10 : Hid _ := F10
            clear F10 s5 t5 O9 K9 L9 hx9
            go_wp2
            go_meet
            exact ⟨rfl, _, by rw [ho]; exact HF10.out⟩
      case rest =>
        obtain ⟨rfl, vx, F7⟩ := hcut
        generalize hw9 : wc = w9 at *
        clear hw9 F3 c2 c3 c4 c5 m5
        have HO2' : Hid ((be || o1) = o2 ∧ (if be = true then b.drop po else if o1 = true then h1 ++ b.drop po else h1) = h2) := by
          obtain ⟨e1, e2⟩ := HO2.out
          have e3 := HH2.out
          refine ⟨e1, ?_⟩
          rw [← e3, ← e2, ← e1]
          cases be <;> simp
        have hfe := fed_eq (sp := spV l) (u := u) (fi := fi) HO1.out HO2'.out HNN.out
        obtain ⟨c2, c3, c4, c5⟩ := HPC.out _ _ _ _ _ F7
        have m5 : w9.cell? ⟨g, 5, none⟩ = some (.bool o2) := F7.c 5
        have m6 : w9.cell? ⟨g, 6, none⟩ = some vx := F7.c 6
        rw [HANS.out] at hfe
        obtain ⟨aox, capx, rfl, CX, ZX, -⟩ := F7.2.1.rd
        have HCX : Hid (Cells w9 aox h2 ∧ (aox = none → capx = 0)) := ⟨CX, ZX⟩
        clear CX ZX
        clear HO1 HO2 HO2' HH2 HNN HANS HDP HAD HA
        by_cases hl : 65535 < h2.length
        · rw [if_pos hl] at hfe
          subst hfe
          have hl' : (65535 : Int) < (h2.length : Int) := by omega
          have CF := forget_any F7
          clear F7 c2 c3 c4 c5 hl
          go_wp2_with fail
          refine CF.mono ?_
          rintro e wA ⟨rfl, vA, FA, -⟩
          have mA : wA.cell? ⟨g, 5, none⟩ = some (.bool false) := FA.c 5
          have HF : Hid (BF w base g V l v pa nn false [] vA wA) := FA
          clear CF FA m5 m6
          go_wp2
          go_ret3
          exact ⟨_, _, rfl, World.ownsRow_nil _ _ _ _, ⟨HF.out.1, HF.out.2.1⟩, HF.out.2.2.1, (fun y hy => by cases hy), HF.out.2.2.2.2⟩
        · rw [if_neg hl] at hfe
          have hl' : ¬ (65535 : Int) < (h2.length : Int) := by omega
          by_cases hof : o2 = true ∧ fi = true
          · rw [if_pos hof] at hfe
            subst hfe
            obtain ⟨rfl, rfl⟩ := hof
            have HF7 : Hid (BF w base g V l v pa nn true h2 (.slice aox h2.length capx) w9) := F7
            have JN := lit_one (W := w9) 28 (k1 := capx) HCX.out.1 HCX.out.2 (by omega)
            clear F7 c2 c4 c5
            go_wp2_with fail
            refine JN.mono ?_
            rintro e wA ⟨x, rfl, OA, KA⟩
            have FA := HF7.out.kept (grown_trans (World.grownBy_alloc w9 (.cells #[.slice aox h2.length capx] 28) none) KA)
            have CF := forget_any FA
            have HOA : Hid (Owns wA w9.heap.size x h2) := OA
            have HSZ : Hid (w.heap.size ≤ w9.heap.size) := HF7.out.2.2.2.2.size
            have HLT : Hid (g < w9.heap.size ∧ ∀ y, (Value.slice aox h2.length capx).ownBlock = some y → y < w9.heap.size) := ⟨HF7.out.lt.1, HF7.out.lt.2.2⟩
            clear JN KA OA HF7 m5 m6 c3
            go_wp2_with fail
            refine CF.mono ?_
            rintro e wB ⟨rfl, vB, FB, KB, LB⟩
            have hxg : ∀ y, x.ownBlock = some y → y ≠ g ∧ (Value.slice aox h2.length capx).ownBlock ≠ some y := fun y hy => by
              have h9 := (World.ownsRow.lt HOA.out y hy).1
              refine ⟨?_, fun e => ?_⟩
              · have := HLT.out.1
                omega
              · have := HLT.out.2 y e
                omega
            have HX : Hid (Owns wB w.heap.size x h2 ∧ (∀ y, x.ownBlock = some y → y ≠ g ∧ vB.ownBlock ≠ some y) ∧ BF w base g V l v pa nn false [] vB wB) := ⟨owns_mono (World.ownsRow.kept HOA.out KB (.inr fun e => (hxg g e).1 rfl)) HSZ.out, fun y hy => ⟨(hxg y hy).1, fun e => (hxg y hy).2 (LB y e)⟩, FB⟩
            clear CF FA FB KB LB hxg
            go_wp2
            go_ret3
            exact ⟨_, _, rfl, HX.out.1, ⟨HX.out.2.2.1, HX.out.2.2.2.1⟩, HX.out.2.2.2.2.1, HX.out.2.1, HX.out.2.2.2.2.2.2⟩
          · rw [if_neg hof] at hfe
            subst hfe
            have HF : Hid (BF w base g V l v pa nn o2 h2 (.slice aox h2.length capx) w9) := F7
            clear F7 c2 c4 c5
            cases o2 with
            | false =>
              go_wp2
              go_ret3
              exact ⟨_, _, rfl, World.ownsRow_nil _ _ _ _, ⟨HF.out.1, HF.out.2.1⟩, HF.out.2.2.1, (fun y hy => by cases hy), HF.out.2.2.2.2⟩
            | true =>
              have hf : fi = false := by cases fi <;> simp_all
              subst hf
              go_wp2
              go_ret3
              exact ⟨_, _, rfl, World.ownsRow_nil _ _ _ _, ⟨HF.out.1, HF.out.2.1⟩, HF.out.2.2.1, (fun y hy => by cases hy), HF.out.2.2.2.2⟩

end Go.Proofs.Ytkjofgnmjfngeaa
