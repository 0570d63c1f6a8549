/-
  Package bundle: its contracts.
-/
import Derived.Test.YtgfiadljjlajaaaBundleS
import Derived.Test.YtgfiadljjlajaaaBundleJ
namespace Go.Proofs.Ytgfiadljjlajaaa
open Go.RowKit
set_option maxRecDepth 100000

/-- A bundle in memory: its pointer, what it has, the blocks that it lives in. -/
def BAt (w : World) (base : Nat) (p : Value) (l : Lk) (u : Bs) (S : Nat → Prop) : Prop :=
  ∃ g v, p = .pointer (some ⟨g, 0, none⟩) ∧ base ≤ g ∧ BNv w base g l u v ∧ (l.mp = 1 ∨ l.mp = 2) ∧ u.has.length ≤ 65535 ∧ ∀ x, S x ↔ (x = g ∨ v.ownBlock = some x)
theorem BAt.kept {w w' : World} {base : Nat} {p : Value} {l : Lk} {u : Bs} {S S' : Nat → Prop} (h : BAt w base p l u S) (G : GB w w' S') (hs : ∀ x, S x → ¬ S' x) : BAt w' base p l u S := by
  obtain ⟨g, v, hp, hg, ⟨hb, ho⟩, hm, hh, hS⟩ := h
  exact ⟨g, v, hp, hg, ⟨G.vat hb (hs g ((hS g).2 (.inl rfl))), G.owns ho (fun x hx => hs x ((hS x).2 (.inr hx)))⟩, hm, hh, hS⟩
theorem BAt.lt {w : World} {base : Nat} {p : Value} {l : Lk} {u : Bs} {S : Nat → Prop} (h : BAt w base p l u S) : (∀ x, S x → base ≤ x ∧ x < w.heap.size) ∧ ∃ ad, p = .pointer (some ad) := by
  obtain ⟨g, v, hp, hg, ⟨hb, ho⟩, hm, hh, hS⟩ := h
  refine ⟨fun x hx => ?_, ⟨_, hp⟩⟩
  rcases (hS x).1 hx with rfl | e
  · exact ⟨hg, hb.lt⟩
  · exact World.ownsRow.lt ho x e

theorem size73 : (Try.prog.info? 73).map (·.size) = some 7 := by kernel_rfl

set_option maxHeartbeats 2000000 in
theorem new_ok (l : Lk) (next : Nat) (u : Bs) (w : World) (h : newX l next = .ok u) :
    Calls Try.prog 19 #[.agg (lkA l), .int .u32 (next : Int)] w fun e w' => ∃ p S, e = .returned (.tuple #[p, .int .i64 0]) ∧ BAt w' w.heap.size p l u S ∧ w.grownBy w' none := by
  have L0 := VAt.alloc w 23 (lkA l)
  have G0 : w.grownBy (w.alloc (.cells (lkA l) 23)) none := World.grownBy_alloc _ _ _
  have HL : Hid ((Try.prog.info? 23).map (·.size) = some (lkA l).size) := size23
  have CM := order_any l next (w.alloc (.cells (lkA l) 23))
  obtain ⟨hu, hmay, hf, ho⟩ := new_is h
  rw [h, ho] at CM
  simp only [exE] at CM
  subst hu
  have HMP : Hid (l.mp = 1 ∨ l.mp = 2) := (may_mp hmay).1
  clear h hmay hf ho
  go_enter Try.func19, Try.ntmps19
  go_wp2_with (refine wpList_load_row rfl 23 (.tmp 2) rfl w.heap.size rfl 23 (lkA l) (0, 0) _ L0 Try.underlying23 rfl HL.out ?_)
  refine CM.mono ?_
  rintro e w1 ⟨rfl, K1⟩
  have L1 := L0.kept K1
  have G1 := grown_trans G0 K1
  clear CM L0 G0 K1
  go_upto_region 4 with fail
  have O2 := VAt.alloc w1 61 #[.int .u32 (next : Int), .int .u32 ((spV l - 1 : Nat) : Int)]
  have KO := World.grownBy_alloc w1 (.cells #[.int .u32 (next : Int), .int .u32 ((spV l - 1 : Nat) : Int)] 61) none
  have L2 := L1.kept KO
  have G2 := grown_trans G1 KO
  generalize w1.alloc (.cells #[.int .u32 (next : Int), .int .u32 ((spV l - 1 : Nat) : Int)] 61) = w2 at *
  generalize w1.heap.size = O at *
  clear L1 G1 KO
  have HOS : Hid ((Try.prog.info? 61).map (·.size) = some (#[.int .u32 (next : Int), .int .u32 ((spV l - 1 : Nat) : Int)] : Array Value).size) := size61
  have hlk : lkA l = #[.bool l.acfc, .bool l.pfc, .int .i64 l.mp] := rfl
  have HB : Hid (∃ S, BAt (w2.alloc (.cells #[.int .u32 (next : Int), .int .u32 ((spV l - 1 : Nat) : Int), .bool l.acfc, .bool l.pfc, .int .i64 l.mp, .bool false, .slice none 0 0] 73)) w.heap.size (.pointer (some ⟨w2.heap.size, 0, none⟩)) l ⟨next, false, []⟩ S) :=
    ⟨fun x => x = w2.heap.size ∨ (Value.slice none 0 0).ownBlock = some x, w2.heap.size, .slice none 0 0, rfl, G2.size, ⟨VAt.alloc w2 _ _, World.ownsRow_nil _ _ _ _⟩, HMP.out, Nat.zero_le _, fun _ => Iff.rfl⟩
  have HG : Hid (w.grownBy (w2.alloc (.cells #[.int .u32 (next : Int), .int .u32 ((spV l - 1 : Nat) : Int), .bool l.acfc, .bool l.pfc, .int .i64 l.mp, .bool false, .slice none 0 0] 73)) none) := grown_trans G2 (World.grownBy_alloc _ _ _)
  clear G2 HMP
  rw [hlk] at L2 HL
  go_wp2_with (first
    | refine wpList_load_row rfl 61 (.tmp 6) rfl O rfl 61 _ (0, 0) _ O2 Try.underlying61 rfl HOS.out ?_
    | refine wpList_load_row rfl 23 (.tmp 2) rfl w.heap.size rfl 23 _ (0, 0) _ L2 Try.underlying23 rfl HL.out ?_)
  go_ret2
  obtain ⟨S, hB⟩ := HB.out
  exact ⟨_, S, rfl, hB, HG.out⟩

theorem new_err (l : Lk) (next : Nat) (er : Int) (w : World) (h : newX l next = .error er) :
    Calls Try.prog 19 #[.agg (lkA l), .int .u32 (next : Int)] w fun e w' => e = .returned (.tuple #[.pointer none, .int .i64 er]) ∧ w.grownBy w' none := by
  have L0 := VAt.alloc w 23 (lkA l)
  have G0 : w.grownBy (w.alloc (.cells (lkA l) 23)) none := World.grownBy_alloc _ _ _
  have HL : Hid ((Try.prog.info? 23).map (·.size) = some (lkA l).size) := size23
  have CM := order_any l next (w.alloc (.cells (lkA l) 23))
  obtain ⟨hz, ho, -⟩ := new_er h
  rw [h, ho] at CM
  simp only [exE] at CM
  clear h ho
  go_enter Try.func19, Try.ntmps19
  go_wp2_with (refine wpList_load_row rfl 23 (.tmp 2) rfl w.heap.size rfl 23 (lkA l) (0, 0) _ L0 Try.underlying23 rfl HL.out ?_)
  refine CM.mono ?_
  rintro e w1 ⟨rfl, K1⟩
  have G1 := grown_trans G0 K1
  clear CM L0 G0 K1
  go_wp2
  go_ret2
  exact ⟨rfl, grown_trans G1 (World.grownBy_alloc _ _ _)⟩

theorem fed_has (sp : Nat) (u : Bs) (sq : Nat) (be fi : Bool) (c : List UInt8) : (fedV sp u sq be fi c).1.has.length ≤ 65535 := by
  unfold fedV
  generalize (if be = true then c else if (sq = u.nxt ∧ u.opn = true) then u.has ++ c else if sq = u.nxt then u.has else []) = h2
  by_cases h : 65535 < h2.length
  · rw [if_pos h]
    simp
  · rw [if_neg h]
    by_cases h3 : (be = true ∨ (sq = u.nxt ∧ u.opn = true)) ∧ fi = true
    · rw [if_pos h3]
      simp
    · rw [if_neg h3]
      show h2.length ≤ 65535
      omega

theorem feed_any (base : Nat) (p : Value) (l : Lk) (u : Bs) (S : Nat → Prop) (a : Option Addr) (ca : Nat) (b : List UInt8) (w : World) (hb : BAt w base p l u S) (ha : Cells w a b) (hc0 : a = none → ca = 0) (hca : b.length ≤ ca) (hn : b.length ≤ 140737488355328) (hap : ∀ ad, a = some ad → b ≠ [] → ¬ S ad.block) :
    Calls Try.prog 21 #[p, .slice a b.length ca] w fun e w' => ∃ x S', e = .returned (.tuple #[x, .bool (exV (u, [], false) (feedX l u b)).2.2, .int .i64 (exE (feedX l u b))]) ∧ Owns w' w.heap.size x (exV (u, [], false) (feedX l u b)).2.1 ∧ BAt w' base p l (exV (u, [], false) (feedX l u b)).1 S' ∧ (∀ y, S' y → S y ∨ w.heap.size ≤ y) ∧ (∀ y, x.ownBlock = some y → ¬ S' y) ∧ GB w w' S := by
  obtain ⟨g, v, rfl, hg, hbn, hm, hh, hS⟩ := hb
  have fin : ∀ (r : Bs × List UInt8 × Bool) (er : Int), r.1.has.length ≤ 65535 → ∀ e w', FeedB w base g l v r er e w' → ∃ x S', e = .returned (.tuple #[x, .bool r.2.2, .int .i64 er]) ∧ Owns w' w.heap.size x r.2.1 ∧ BAt w' base (.pointer (some ⟨g, 0, none⟩)) l r.1 S' ∧ (∀ y, S' y → S y ∨ w.heap.size ≤ y) ∧ (∀ y, x.ownBlock = some y → ¬ S' y) ∧ GB w w' S := by
    rintro r er hr e w' ⟨x, v', rfl, h1, h2, h3, h4, h5⟩
    refine ⟨x, fun i => i = g ∨ v'.ownBlock = some i, rfl, h1, ⟨g, v', rfl, hg, h2, hm, hr, fun _ => Iff.rfl⟩, fun y hy => ?_, fun y hy => ?_, h5.mono (fun x hx => (hS x).2 hx)⟩
    · rcases hy with rfl | hy
      · exact .inl ((hS _).2 (.inl rfl))
      · rcases h3 y hy with q | q
        · exact .inr q
        · exact .inl ((hS _).2 (.inr q))
    · obtain ⟨q1, q2⟩ := h4 y hy
      exact fun e => e.elim q1 q2
  have hap' : ∀ ad, a = some ad → b ≠ [] → ad.block ≠ g ∧ v.ownBlock ≠ some ad.block := fun ad e hb => ⟨fun q => hap ad e hb ((hS _).2 (.inl q)), fun q => hap ad e hb ((hS _).2 (.inr q))⟩
  have hbase : base ≤ w.heap.size := Nat.le_of_lt (Nat.lt_of_le_of_lt hg hbn.1.lt)
  have hfx : feedX l u b = (pieceV l b).bind fun v => if v.multi = true then .ok (fedV (spV l) u v.seq v.beg v.fin (b.drop v.pos)) else .error 94 := rfl
  rcases except_cases (pieceV l b) with ⟨er, he⟩ | ⟨pv, he⟩
  · have hlk : lookP l b = .error er := by unfold lookP; rw [bind_err he]
    rw [hfx, bind_err he]
    exact (bfeed_err base g l u v a ca b er w hm hbn ha hn hlk).mono (fun e w' h => fin _ _ hh e w' h)
  · by_cases hmu : pv.multi = true
    · rw [hfx, bind_of he, if_pos hmu]
      obtain ⟨pr, mu, be, fi, sq, po, ne, nx, lo⟩ := pv
      simp only at hmu
      subst hmu
      exact (bfeed_ok base g l u v a ca b pr be fi sq po ne nx lo w hm hbn ha hc0 hca hn hap' he hh hbase).mono (fun e w' h => fin _ _ (fed_has ..) e w' h)
    · have hlk : lookP l b = .error 94 := by unfold lookP; rw [bind_of he, if_neg hmu]
      rw [hfx, bind_of he, if_neg hmu]
      exact (bfeed_err base g l u v a ca b _ w hm hbn ha hn hlk).mono (fun e w' h => fin _ _ hh e w' h)

set_option maxHeartbeats 1000000 in
theorem waits_any (base : Nat) (p : Value) (l : Lk) (u : Bs) (S : Nat → Prop) (w : World) (hb : BAt w base p l u S) :
    Calls Try.prog 22 #[p] w fun e w' => e = .returned (.tuple #[.int .u32 (u.nxt : Int), .int .i64 (u.has.length : Int)]) ∧ ∃ n, w' = w.drewN n := by
  obtain ⟨g, v, rfl, -, ⟨hb, ho⟩, -, -, -⟩ := hb
  obtain ⟨ao, cap, rfl, -, -⟩ := ho.shape
  have m0 : w.cell? ⟨g, 0, none⟩ = some (.int .u32 (u.nxt : Int)) := hb.cell 0
  have m6 : w.cell? ⟨g, 6, none⟩ = some (.slice ao u.has.length cap) := hb.cell 6
  clear hb ho
  go_enter Try.func22, Try.ntmps22
  go_wp2
  go_quiet (fail)
  go_wp2
  go_ret2
  exact ⟨rfl, _, rfl⟩

end Go.Proofs.Ytgfiadljjlajaaa
