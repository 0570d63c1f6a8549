/-
  The document's own Feed, of a piece.
-/
import Derived.Test.YtgfiadljjlajaaaBundleF
namespace Go.Proofs.Ytgfiadljjlajaaa
open Go.RowKit
set_option maxRecDepth 100000

theorem except_cases9 {α : Type} (x : Except Int α) : (∃ e, x = .error e) ∨ ∃ a, x = .ok a := by
  cases x with
  | error e => exact .inl ⟨e, rfl⟩
  | ok a => exact .inr ⟨a, rfl⟩

set_option maxRecDepth 100000 in
set_option maxHeartbeats 4000000 in
theorem reffeed_ok (base g : Nat) (l : Lk) (u : Bs) (v : Value) (a : Option Addr) (ca : Nat) (b : List UInt8) (pr : Nat) (be fi : Bool) (sq po ne nx lo : Nat) (w : World) (hb : RBv w base g l u v) (ha : Cells w a b) (hc0 : a = none → ca = 0) (hca : b.length ≤ ca) (hn : b.length ≤ 140737488355328)
    (hap : ∀ ad, a = some ad → b ≠ [] → ad.block ≠ g ∧ v.ownBlock ≠ some ad.block) (hp : pieceV l b = .ok ⟨pr, true, be, fi, sq, po, ne, nx, lo⟩) (hh : u.has.length ≤ 65535) (hbase : base ≤ w.heap.size) :
    Calls Try.prog 20 #[.pointer (some ⟨g, 0, none⟩), .slice a b.length ca] w fun e w' => FeedP w base g l v (fedV (spV l) u sq be fi (b.drop po)) 0 e w' := by
  have CP := refpiece_any l a ca b w ha (by omega)
  rw [hp] at CP
  simp only [exV, exE, vwA] at CP
  have hpo := (piece_ok hp).2.2.2.2.2.1
  have hsq := ((piece_ok hp).2.2.2.2.2.2.2.2.2 rfl).2
  have hbl := (piece_ok hp).1
  simp only at hpo hsq
  have hpo1 := (piece_ok hp).2.2.2.2.1
  simp only at hpo1
  obtain ⟨bb, ob, rfl, -⟩ := ha.addr (k := 0) (by omega)
  obtain ⟨ad, had⟩ : ∃ ad : Addr, (if ca = po then (some ⟨bb, ob, none⟩ : Option Addr) else some ⟨bb, ob + po, none⟩) = some ad := by split <;> exact ⟨_, rfl⟩
  have HAD : Hid ((if ca = po then (some ⟨bb, ob, none⟩ : Option Addr) else some ⟨bb, ob + po, none⟩) = some ad) := had
  have HDP : Hid (∀ wx, Cells wx (some ⟨bb, ob, none⟩) b → Cells wx (some ad) (b.drop po)) := fun wx h => by
    have q := drop_any (k := po) h hpo hca
    rw [show Option.map (fun x : Addr => x.add po) (some ⟨bb, ob, none⟩) = some ⟨bb, ob + po, none⟩ from congrArg some (Addr.add_lit _ _ _), HAD.out] at q
    exact q
  clear had hpo1
  have x0 : w.cell? ⟨g, 0, none⟩ = some (.bool l.acfc) := hb.1.cell 0
  have x1 : w.cell? ⟨g, 1, none⟩ = some (.bool l.pfc) := hb.1.cell 1
  have x2 : w.cell? ⟨g, 2, none⟩ = some (.int .i64 l.mp) := hb.1.cell 2
  have HA : Hid (Cells w (some ⟨bb, ob, none⟩) b ∧ ∀ ad, (some ⟨bb, ob, none⟩ : Option Addr) = some ad → b ≠ [] → ad.block ≠ g ∧ v.ownBlock ≠ some ad.block) := ⟨ha, hap⟩
  have HB : Hid (RBv w base g l u v) := hb
  have HSP : Hid (∀ W, Calls Try.prog 26 #[.agg (lkA l)] W fun e w' => e = .returned (.int .u32 (spV l : Int)) ∧ W.grownBy w' none) := fun W => space_any l W
  have HSPP : Hid (0 < spV l ∧ spV l ≤ 16777216) := ⟨sp_pos l, by unfold spV; split <;> omega⟩
  obtain ⟨ans, hans⟩ : ∃ ans, fedV (spV l) u sq be fi (b.drop po) = ans := ⟨_, rfl⟩
  rw [hans]
  have HANS : Hid (fedV (spV l) u sq be fi (b.drop po) = ans) := hans
  clear hb ha hp hap hans
  go_enter Try.func20, Try.ntmps20
  go_wp2_with fail
  refine CP.mono ?_
  rintro e w1 ⟨rfl, K1⟩
  clear CP x0 x1 x2
  obtain ⟨pa, hpa⟩ : ∃ pa : Array Value, #[.int .u32 (pr : Int), .bool true, .bool be, .bool fi, .int .u32 (sq : Int), .int .i64 (po : Int), .int .i64 (ne : Int), .int .i64 (nx : Int), .int .i64 (lo : Int)] = pa := ⟨_, rfl⟩
  have KV := World.grownBy_alloc w1 (.cells pa 53) none
  have F0 : FS w base g w1.heap.size l v pa u.nxt u.opn u.has v (w1.alloc (.cells pa 53)) :=
    ⟨(HB.out.1.kept K1).kept KV, owns_keptNone (owns_keptNone HB.out.2 K1) KV, (fun y hy => .inr hy), VAt.alloc w1 _ _, GB.non (grown_trans K1 KV)⟩
  have HPA : Hid (#[.int .u32 (pr : Int), .bool true, .bool be, .bool fi, .int .u32 (sq : Int), .int .i64 (po : Int), .int .i64 (ne : Int), .int .i64 (nx : Int), .int .i64 (lo : Int)] = pa) := hpa
  have HV : Hid (w.heap.size ≤ w1.heap.size) := K1.size
  clear hpa
  go_upto_region 4 with fail
  rw [HPA.out]
  generalize w1.alloc (.cells pa 53) = w2 at *
  generalize w1.heap.size = V at *
  clear K1 KV HB
  have HPC : Hid (∀ wx nx o h vv, FS w base g V l v pa nx o h vv wx → wx.cell? ⟨V, 1, none⟩ = some (.bool true) ∧ wx.cell? ⟨V, 2, none⟩ = some (.bool be) ∧ wx.cell? ⟨V, 3, none⟩ = some (.bool fi) ∧ wx.cell? ⟨V, 4, none⟩ = some (.int .u32 (sq : Int)) ∧ wx.cell? ⟨V, 5, none⟩ = some (.int .i64 (po : Int))) := fun wx nx o h vv F => by
    have q := F.2.2.2.1
    rw [← HPA.out] at q
    exact ⟨q.cell 1, q.cell 2, q.cell 3, q.cell 4, q.cell 5⟩
  obtain ⟨c1, c2, c3, c4, c5⟩ := HPC.out _ _ _ _ _ F0
  have m3 : w2.cell? ⟨g, 3, none⟩ = some (.int .u32 (u.nxt : Int)) := F0.c 3
  go_wp2
  go_quiet (fail)
  clear c1 c2 c3 c4 c5 m3
  have F1 := F0.kept (grown_drewN w2 nq none)
  clear F0
  generalize w2.drewN nq = w3 at *
  obtain ⟨o1, ho1⟩ : ∃ o1, (if sq = u.nxt then u.opn else false) = o1 := ⟨_, rfl⟩
  obtain ⟨h1, hh1⟩ : ∃ h1, (if sq = u.nxt then u.has else []) = h1 := ⟨_, rfl⟩
  have HO1 : Hid ((if sq = u.nxt then u.opn else false) = o1 ∧ (if sq = u.nxt then u.has else []) = h1) := ⟨ho1, hh1⟩
  clear ho1 hh1
  go_upto_if 31 with fail
  go_cut [5] from 19 to 37 (fun t wx => t = .bool false ∧ ∃ vv, FS w base g V l v pa u.nxt o1 h1 vv wx)
  case first =>
    by_cases hs : sq = u.nxt
    · have hsd : ((sq : Int) != (u.nxt : Int)) = false := by rw [bne_eq_false_iff_eq]; omega
      obtain ⟨e1, e2⟩ := HO1.out
      rw [if_pos hs] at e1 e2
      subst e1 e2
      have HF : Hid (FS w base g V l v pa u.nxt u.opn u.has v w3) := F1
      clear F1 hs
      go_wp2
      go_meet
      exact ⟨rfl, _, HF.out⟩
    · have hsd : ((sq : Int) != (u.nxt : Int)) = true := by rw [bne_iff_ne]; omega
      obtain ⟨e1, e2⟩ := HO1.out
      rw [if_neg hs] at e1 e2
      subst e1 e2
      have m4 : w3.cell? ⟨g, 4, none⟩ = some (.bool u.opn) := F1.c 4
      have f4 := F1.f 4
      have m5 : w3.cell? ⟨g, 5, none⟩ = some v := F1.c 5
      have f5 := F1.f 5
      have HF : Hid (FS w base g V l v pa u.nxt false [] (.slice none 0 0) ((w3.setCell ⟨g, 4, none⟩ (.bool false)).setCell ⟨g, 5, none⟩ (.slice none 0 0))) := (F1.opn false).nil
      clear F1 hs
      go_wp2
      go_meet
      exact ⟨rfl, _, HF.out⟩
  case rest =>
    obtain ⟨rfl, vv, F2⟩ := hcut
    generalize hw4 : wc = w4 at *
    clear hw4 F1
    obtain ⟨c1, c2, c3, c4, c5⟩ := HPC.out _ _ _ _ _ F2
    have y0 : w4.cell? ⟨g, 0, none⟩ = some (.bool l.acfc) := F2.c 0
    have y1 : w4.cell? ⟨g, 1, none⟩ = some (.bool l.pfc) := F2.c 1
    have y2 : w4.cell? ⟨g, 2, none⟩ = some (.int .i64 l.mp) := F2.c 2
    have HF2 : Hid (FS w base g V l v pa u.nxt o1 h1 vv w4) := F2
    have hspp := HSPP.out
    have hne : ¬ (spV l : Int) = 0 := by omega
    have hw1 : IntKind.u32.wrap ((sq : Int) + 1) = ((sq + 1 : Nat) : Int) := by rw [IntKind.wrap_u32]; omega
    go_upto_region 9 with fail
    go_cut [5] from 38 to 49 (fun t wx => t = .bool false ∧ ∃ vv, FS w base g V l v pa ((sq + 1) % spV l) o1 h1 vv wx)
    case first =>
      go_region_with (go_at_call 26; refine (HSP.out _).mono ?_; rintro e w5 ⟨rfl, K5⟩; have F5 := HF2.out.kept (by first | exact K5 | exact grown_trans (grown_drewN w4 1 none) K5); obtain ⟨z1, z2, z3, z4, z5⟩ := HPC.out _ _ _ _ _ F5; have s3 : w5.cell? ⟨g, 3, none⟩ = some (.int .u32 (u.nxt : Int)) := F5.c 3; have sf3 := F5.f 3)
      all_goals
        have F6 := F5.nxt ((sq + 1) % spV l)
        rw [show ((sq : Int) + 1) % (spV l : Int) = (((sq + 1) % spV l : Nat) : Int) by simp]
        have HF6 : Hid (FS w base g V l v pa ((sq + 1) % spV l) o1 h1 vv (w5.setCell ⟨g, 3, none⟩ (.int .u32 (((sq + 1) % spV l : Nat) : Int)))) := F6
        clear F5 F6 s3 sf3
        go_wp2
        go_meet
        exact ⟨rfl, _, HF6.out⟩
    case rest =>
      obtain ⟨rfl, vv2, F3⟩ := hcut
      generalize hw6 : wc = w6 at *
      clear hw6 F2 HF2 c1 c2 c3 c4 c5 y0 y1 y2 hw1
      obtain ⟨nn, hnn⟩ : ∃ nn, (sq + 1) % spV l = nn := ⟨_, rfl⟩
      have HNN : Hid ((sq + 1) % spV l = nn) := hnn
      rw [hnn] at F3
      clear hnn
      obtain ⟨o2, ho2⟩ : ∃ o2, (be || o1) = o2 := ⟨_, rfl⟩
      obtain ⟨h2, hh2⟩ : ∃ h2, (if be = true then b.drop po else if o1 = true then h1 ++ b.drop po else h1) = h2 := ⟨_, rfl⟩
      have HO2 : Hid ((be || o1) = o2 ∧ (if be = true then b.drop po else if o1 = true then h1 ++ b.drop po else h1) = h2) := ⟨ho2, hh2⟩
      clear ho2 hh2
      obtain ⟨c1, c2, c3, c4, c5⟩ := HPC.out _ _ _ _ _ F3
      go_upto_if 51 with fail
      go_cut [5] from 50 to 79 (fun t wx => t = .bool false ∧ ∃ vv, FS w base g V l v pa nn o2 h2 vv wx)
      case first =>
        have HF3 : Hid (FS w base g V l v pa nn o1 h1 vv2 w6) := F3
        have HCD : Hid (∀ wx nx o h vv, FS w base g V l v pa nx o h vv wx → Cells wx (some ⟨bb, ob, none⟩) b) := fun wx nx o h vv F => F.2.2.2.2.cells HA.out.1 (fun ad e hb => by
          obtain ⟨q1, q2⟩ := HA.out.2 ad e hb
          exact fun hh => hh.elim q1 q2)
        have z2 : (0 : Int) ≤ (po : Int) := by omega
        have z3 : (po : Int) ≤ (b.length : Int) := by omega
        obtain ⟨i0, hi, hz0, hz1, hz2⟩ := info_parts info5
        cases hbe : be with
        | true =>
          rw [hbe] at HO2
          obtain ⟨e1, e2⟩ := HO2.out
          rw [Bool.true_or] at e1
          rw [if_pos rfl] at e2
          subst e1 e2
          have m4 : w6.cell? ⟨g, 4, none⟩ = some (.bool o1) := F3.c 4
          have f4 := F3.f 4
          have F4 := F3.opn true
          have K0 : w6.grownBy (w6.setCell ⟨g, 4, none⟩ (.bool true)) (some g) := grown_setCell (World.grownBy.refl _ _) _ _ (.inl rfl)
          have HZ : Hid (w.heap.size ≤ (w6.setCell ⟨g, 4, none⟩ (.bool true)).heap.size) := F4.2.2.2.2.size
          clear F3 HF3 c1 c3 c4 K0
          go_upto_region 12 with fail
          generalize w6.setCell ⟨g, 4, none⟩ (.bool true) = w7 at *
          have KM := World.grownBy_alloc w7 (.cells #[] 5) none
          have OM : Hid (Owns (w7.alloc (.cells #[] 5)) w7.heap.size (.slice (some ⟨w7.heap.size, 0, none⟩) 0 0) []) := owns_made w7 _ (Nat.le_refl _)
          have F5 := F4.kept KM
          have HF5 : Hid (FS w base g V l v pa nn true h1 vv2 (w7.alloc (.cells #[] 5))) := F5
          obtain ⟨d1, d2, d3, d4, d5⟩ := HPC.out _ _ _ _ _ F5
          have HLT := F4.lt
          have HLT4 : Hid (g < w7.heap.size ∧ V < w7.heap.size ∧ ∀ y, vv2.ownBlock = some y → y < w7.heap.size) := F4.lt
          clear F4 F5 KM HLT m4 f4 c2 c5
          have HDC : Hid (Cells (w7.alloc (.cells #[] 5)) (some ad) (b.drop po)) := HDP.out _ (HCD.out _ _ _ _ _ HF5.out)
          have hzz := HAD.out
          have hdl : b.length - po = (b.drop po).length := by rw [List.length_drop]
          have HDL : Hid ((b.drop po).length ≤ 65535) := by show (b.drop po).length ≤ 65535; rw [List.length_drop]; omega
          generalize hdd : b.drop po = dd at *
          go_wp2_with (at_builtin; refine wpList_append_rd rfl (.tmp 56) (.tmp 60) 24 rfl i0 Try.underlying24 hi hz0 hz1 hz2 w7.heap.size (.slice (some ⟨w7.heap.size, 0, none⟩) 0 0) [] rfl ?q1 (some ad) (ca - po) dd ?q2 (by simp) ?q4 ?q5 ?q6 ?q7)
          case q1 => exact OM.out
          case q4 => exact HDC.out
          case q5 => have := HDL.out; simp; omega
          case q7 =>
            intro x8 w8 O8 K8
            have F8 := HF5.out.new (E := w7.heap.size) K8 HZ.out (by have := HLT4.out.1; omega) (fun e => by have := HLT4.out.2.2 _ e; omega) (by have := HLT4.out.2.1; omega)
            have hx8 : ∀ y, x8.ownBlock = some y → w.heap.size ≤ y ∨ v.ownBlock = some y := fun y hy => .inl (by have := (World.ownsRow.lt O8 y hy).1; have := HZ.out; omega)
            have F9 := F8.has (owns_mono O8 (by have := HZ.out; omega)) hx8
            have m5 : w8.cell? ⟨g, 5, none⟩ = some vv2 := F8.c 5
            have f5 := F8.f 5
            obtain ⟨ao8, cap8, rfl, -, -⟩ := O8.shape
            have HF9 : Hid (FS w base g V l v pa nn true dd (.slice ao8 dd.length cap8) (w8.setCell ⟨g, 5, none⟩ (.slice ao8 dd.length cap8))) := F9
            clear F8 F9 O8 K8 hx8 d1 d2 d3 d4 d5
            go_wp2
            go_meet
            exact ⟨rfl, _, HF9.out⟩
        | false =>
          rw [hbe] at HO2
          obtain ⟨e1, e2⟩ := HO2.out
          rw [Bool.false_or] at e1
          rw [if_neg (by simp)] at e2
          subst e1
          cases ho : o1 with
          | false =>
            rw [if_neg (by rw [ho]; simp)] at e2
            subst e2
            have m4 : w6.cell? ⟨g, 4, none⟩ = some (.bool false) := by rw [← ho]; exact F3.c 4
            clear F3
            go_wp2
            go_meet
            exact ⟨rfl, _, HF3.out⟩
          | true =>
            rw [if_pos ho] at e2
            have HE2 : Hid (h1 ++ b.drop po = h2) := e2
            clear e2
            have m4 : w6.cell? ⟨g, 4, none⟩ = some (.bool true) := by rw [← ho]; exact F3.c 4
            have m5 : w6.cell? ⟨g, 5, none⟩ = some vv2 := F3.c 5
            obtain ⟨aov, capv, rfl, -, -⟩ := F3.2.1.shape
            have HDC : Hid (Cells w6.drew (some ad) (b.drop po)) := (HDP.out _ (HCD.out _ _ _ _ _ F3)).keptNone (grown_drewN w6 1 none)
            have hzz := HAD.out
            have HOV : Hid (Owns w6.drew base (.slice aov h1.length capv) h1) := owns_keptNone F3.2.1 (grown_drewN w6 1 none)
            have hdl : b.length - po = (b.drop po).length := by rw [List.length_drop]
            have HDL : Hid ((b.drop po).length ≤ 65535) := by show (b.drop po).length ≤ 65535; rw [List.length_drop]; omega
            have HH1 : Hid (h1.length ≤ 65535) := by
              show h1.length ≤ 65535
              rw [← HO1.out.2]
              split
              · exact hh
              · simp
            have HF3d : Hid (FS w base g V l v pa nn o1 h1 (.slice aov h1.length capv) w6.drew) := F3.kept (grown_drewN w6 1 none)
            have HLY : Hid (∀ y9 : Value, (y9.ownBlock = (Value.slice aov h1.length capv).ownBlock ∨ y9.ownBlock = some w6.drew.heap.size) → ∀ y, y9.ownBlock = some y → w.heap.size ≤ y ∨ v.ownBlock = some y) := fun y9 hL y hy => by
              have hsz := F3.2.2.2.2.size
              rcases hL with hL | hL
              · exact F3.2.2.1 y (by rw [← hL]; exact hy)
              · rw [hL] at hy
                cases hy
                exact .inl hsz
            have HBS : Hid (base ≤ w6.heap.size) := Nat.le_trans hbase F3.2.2.2.2.size
            clear F3 c1 c2 c3 c4
            generalize hdd : b.drop po = dd at *
            go_upto_region 14 with fail
            go_region_law (refine step_append_at rfl (.tmp 72) (.tmp 76) 24 rfl i0 Try.underlying24 hi hz0 hz1 hz2 base (.slice aov h1.length capv) h1 (by first | rfl | simp [Act.eval]) (by exact HOV.out) ad (ca - po) dd (by first | rfl | simp [Act.eval]) (by exact HDC.out) (by have := HDL.out; have := HH1.out; omega) (by exact HBS.out) ?_; intro y9 w9 O9 K9 L9; rw [HE2.out] at O9; have hx9 : ∀ y, y9.ownBlock = some y → w.heap.size ≤ y ∨ v.ownBlock = some y := HLY.out y9 L9; obtain ⟨F10, s5, t5⟩ := HF3d.out.app K9 O9 hx9; obtain ⟨ao9, cap9, hy9, -, -⟩ := O9.shape; subst hy9)
            all_goals
              have HF10 : Hid _ := F10
              clear F10 s5 t5 O9 K9 L9 hx9
              go_wp2
              go_meet
              exact ⟨rfl, _, HF10.out⟩
      case rest =>
        obtain ⟨rfl, vx, F7⟩ := hcut
        generalize hw9 : wc = w9 at *
        clear hw9 F3 c1 c2 c3 c4 c5
        have hfe := fed_eq (sp := spV l) (u := u) (fi := fi) HO1.out HO2.out HNN.out
        obtain ⟨c1, c2, c3, c4, c5⟩ := HPC.out _ _ _ _ _ F7
        have m4 : w9.cell? ⟨g, 4, none⟩ = some (.bool o2) := F7.c 4
        have f4 := F7.f 4
        have m5 : w9.cell? ⟨g, 5, none⟩ = some vx := F7.c 5
        have f5 := F7.f 5
        rw [HANS.out] at hfe
        obtain ⟨aox, capx, rfl, -, -⟩ := F7.2.1.shape
        clear HO1 HO2 HNN HANS HDP HAD HA
        by_cases hl : 65535 < h2.length
        · rw [if_pos hl] at hfe
          subst hfe
          have hl' : (65535 : Int) < (h2.length : Int) := by omega
          have HF : Hid (FS w base g V l v pa nn false [] (.slice none 0 0) ((w9.setCell ⟨g, 4, none⟩ (.bool false)).setCell ⟨g, 5, none⟩ (.slice none 0 0))) := (F7.opn false).nil
          clear F7 c1 c2 c3 c4 c5
          go_wp2
          go_ret3
          exact ⟨_, _, rfl, World.ownsRow_nil _ _ _ _, (fun y hy => by cases hy), ⟨HF.out.1, HF.out.2.1⟩, HF.out.2.2.1, (fun y hy => by cases hy), HF.out.2.2.2.2⟩
        · rw [if_neg hl] at hfe
          have hl' : ¬ (65535 : Int) < (h2.length : Int) := by omega
          by_cases hof : o2 = true ∧ fi = true
          · rw [if_pos hof] at hfe
            subst hfe
            obtain ⟨rfl, rfl⟩ := hof
            have HF : Hid (FS w base g V l v pa nn false [] (.slice none 0 0) ((w9.setCell ⟨g, 4, none⟩ (.bool false)).setCell ⟨g, 5, none⟩ (.slice none 0 0))) := (F7.opn false).nil
            have HX : Hid (Owns ((w9.setCell ⟨g, 4, none⟩ (.bool false)).setCell ⟨g, 5, none⟩ (.slice none 0 0)) base (.slice aox h2.length capx) h2 ∧ ∀ y, (Value.slice aox h2.length capx).ownBlock = some y → w.heap.size ≤ y ∨ v.ownBlock = some y) := ⟨((F7.opn false).put 5 (.slice none 0 0)).2.1, F7.2.2.1⟩
            clear F7 c1 c2 c4 c5
            go_wp2
            go_ret3
            exact ⟨_, _, rfl, HX.out.1, HX.out.2, ⟨HF.out.1, HF.out.2.1⟩, HF.out.2.2.1, (fun y hy hc => by cases hc), HF.out.2.2.2.2⟩
          · rw [if_neg hof] at hfe
            subst hfe
            have HF : Hid (FS w base g V l v pa nn o2 h2 (.slice aox h2.length capx) w9) := F7
            clear F7 c1 c2 c4 c5
            cases o2 with
            | false =>
              go_wp2
              go_ret3
              exact ⟨_, _, rfl, World.ownsRow_nil _ _ _ _, (fun y hy => by cases hy), ⟨HF.out.1, HF.out.2.1⟩, HF.out.2.2.1, (fun y hy => by cases hy), HF.out.2.2.2.2⟩
            | true =>
              have hf : fi = false := by cases fi <;> simp_all
              subst hf
              go_wp2
              go_ret3
              exact ⟨_, _, rfl, World.ownsRow_nil _ _ _ _, (fun y hy => by cases hy), ⟨HF.out.1, HF.out.2.1⟩, HF.out.2.2.1, (fun y hy => by cases hy), HF.out.2.2.2.2⟩

/-- P9.3, of whatever bytes. -/
theorem reffeed_any (base g : Nat) (l : Lk) (u : Bs) (v : Value) (a : Option Addr) (ca : Nat) (b : List UInt8) (w : World) (hb : RBv w base g l u v) (ha : Cells w a b) (hc0 : a = none → ca = 0) (hca : b.length ≤ ca) (hn : b.length ≤ 140737488355328)
    (hap : ∀ ad, a = some ad → b ≠ [] → ad.block ≠ g ∧ v.ownBlock ≠ some ad.block) (hh : u.has.length ≤ 65535) (hbase : base ≤ w.heap.size) :
    Calls Try.prog 20 #[.pointer (some ⟨g, 0, none⟩), .slice a b.length ca] w fun e w' => FeedP w base g l v (exV (u, [], false) (feedX l u b)) (exE (feedX l u b)) e w' := by
  rcases except_cases9 (feedX l u b) with ⟨er, he⟩ | ⟨r, he⟩
  · rw [he]
    exact reffeed_err base g l u v a ca b er w hb ha (by omega) he
  · rw [he]
    have he' := he
    unfold feedX at he
    obtain ⟨pv, hp, he⟩ := bind_ok he
    split at he
    · rename_i hm
      cases he
      obtain ⟨pr, mu, be, fi, sq, po, ne, nx, lo⟩ := pv
      simp only at hm
      subst hm
      exact reffeed_ok base g l u v a ca b pr be fi sq po ne nx lo w hb ha hc0 hca hn hap hp hh hbase
    · cases he

end Go.Proofs.Ytgfiadljjlajaaa
