/-
  riddlelaw21.told: Drain of both.
-/
import Derived.Test.YtlfjpbedjmnpaaaQuY
namespace Go.Proofs.Ytlfjpbedjmnpaaa
open Go.RowKit
set_option maxRecDepth 100000

theorem fr_parts {w : World} {fs : List Fr} (h : ∀ f ∈ fs, ∃ b, Owns w b f.v f.b) : ∃ ps : List Part, ps.map Part.v = fs.map Fr.v ∧ ps.map (·.bs) = fs.map Fr.b ∧ ∀ p ∈ ps, p.ok w := by
  induction fs with
  | nil => exact ⟨[], rfl, rfl, fun p hp => by cases hp⟩
  | cons f t ih =>
    obtain ⟨ps, h1, h2, h3⟩ := ih (fun g hg => h g (List.mem_cons_of_mem _ hg))
    obtain ⟨b, O⟩ := h f (List.mem_cons_self ..)
    obtain ⟨ao, cap, hv, C, h0, -⟩ := O.rd
    refine ⟨⟨ao, cap, f.b⟩ :: ps, ?_, ?_, fun p hp => ?_⟩
    · simp only [List.map_cons, h1]
      rw [hv]
      rfl
    · simp only [List.map_cons, h2]
    · rcases List.mem_cons.1 hp with rfl | hp
      · exact ⟨C, h0⟩
      · exact h3 p hp

/-- Two rows of frames that say the same. -/
theorem sameF_any {w : World} {b1 : Nat} {v1 v2 : Value} {f1 f2 : List Fr} (O1 : w.ownsRow b1 35 1 v1 f1.length (f1.map Fr.v)) (O2 : ∃ ao cap, v2 = .slice ao f2.length cap ∧ CV w ao (f2.map Fr.v)) (h1 : ∀ f ∈ f1, ∃ b, Owns w b f.v f.b) (h2 : ∀ f ∈ f2, ∃ b, Owns w b f.v f.b) (hs : f1.map Fr.b = f2.map Fr.b) (hl : ∀ b ∈ f1.map Fr.b, b.length ≤ 65535) (hn : f1.length ≤ 100000) :
    Calls Try.prog 28 #[v1, v2] w fun e w' => e = .returned (.bool true) ∧ w.grownBy w' none := by
  obtain ⟨a1, c1, rfl, C1, -⟩ := CV.ofRow O1
  obtain ⟨a2, c2, rfl, C2⟩ := O2
  obtain ⟨ps, e1, e2, k1⟩ := fr_parts h1
  obtain ⟨qs, e3, e4, k2⟩ := fr_parts h2
  have l1 : ps.length = f1.length := by have := congrArg List.length e1; simpa using this
  have l2 : qs.length = f2.length := by have := congrArg List.length e3; simpa using this
  have := sameL_any a1 a2 c1 c2 ps qs w (by rw [e1]; exact C1) (by rw [e3]; exact C2) k1 k2 (by rw [e2, e4, hs]) (by omega) (fun p hp => by
    have hm : p.bs ∈ f1.map Fr.b := by rw [← e2]; exact List.mem_map_of_mem hp
    have := hl _ hm
    omega)
  rw [l1, l2] at this
  exact this

set_option maxHeartbeats 4000000 in
theorem told1_any (base : Nat) (q : Lq) (r : Rq) (cl : Int) (a : Option Addr) (n ca : Nat) (w : World) (h : Two w base q r) :
    Calls Try.prog 13 #[.pointer (some ⟨q.g, 0, none⟩), .pointer (some ⟨r.g, 0, none⟩), .agg #[.int .i64 1, .int .i64 cl, .slice a n ca]] w (ToldP w base q r) := by
  have K0 := World.grownBy_alloc w (.cells #[.int .i64 1, .int .i64 cl, .slice a n ca] 37) none
  have B0 := QBk.alloc w 37 #[.int .i64 1, .int .i64 cl, .slice a n ca]
  have x0 := B0.cell 0
  have HT : Hid (Two (w.alloc (.cells #[.int .i64 1, .int .i64 cl, .slice a n ca] 37)) base q r) := h.keptNone K0
  have HB : Hid (∀ e w', ToldP (w.alloc (.cells #[.int .i64 1, .int .i64 cl, .slice a n ca] 37)) base q r e w' → ToldP w base q r e w') := fun e w' => ToldP.back K0
  clear h K0 B0
  go_enter Try.func13, Try.ntmps13
  go_upto_region 1 with fail
  generalize w.alloc (.cells #[.int .i64 1, .int .i64 cl, .slice a n ca] 37) = w0 at *
  have CT := lqdrain_any base q w0 HT.out.la
  go_wp2_with fail
  refine CT.mono ?_
  rintro e w1 ⟨v, fs, q', rfl, hfs, hg, hcl, L, G, F, D⟩
  clear CT x0
  have CR := rqdrain_any base r w1 (HT.out.left G)
  have HL : Hid (fs.map Fr.b = allP q.abs ∧ q'.g = q.g ∧ q'.abs = q.abs.map Qc.clear ∧ LqAt w1 base q' ∧ GW w0 w1 q.foot ∧ Foots w0 q.foot q'.foot ∧ Drained w0 w1 base v fs q.foot q'.foot) := ⟨hfs, hg, hcl, L, G, F, D⟩
  clear hfs hg hcl L G F D
  go_wp2_with fail
  refine CR.mono ?_
  rintro e w2 ⟨v2, fs2, r', rfl, hfs2, hg2, hcl2, R, G2, F2, OR, hown2⟩
  clear CR
  have hab : q'.abs = r'.abs := by rw [HL.out.2.2.1, hcl2, HT.out.abs]
  have hok : ∀ b ∈ allP q'.abs, b.length ≤ 65535 := by
    rw [HL.out.2.2.1, clear_all]
    intro b hb
    cases hb
  obtain ⟨T2, GG, FF, dd⟩ := HT.out.both HL.out.2.2.2.1 HL.out.2.2.2.2.1 HL.out.2.2.2.2.2.1 R G2 F2 hab hok
  obtain ⟨O1, hf1, hc1, hd1, hv0⟩ := HL.out.2.2.2.2.2.2
  have hvr : ∀ x, v.ownBlock = some x → w0.heap.size ≤ x ∧ x < w1.heap.size := fun x hx => O1.lt x hx
  have hfx : ∀ f ∈ fs, ∀ x, f.v.ownBlock = some x → x ∈ fs.flatMap gf1 := fun f hf x hx => List.mem_flatMap.2 ⟨f, hf, mem_gf1.2 hx⟩
  have hfl : ∀ f ∈ fs, ∀ x, f.v.ownBlock = some x → x < w1.heap.size := fun f hf x hx => ((hf1 f hf).lt x hx).2
  have nr : ∀ x, r.foot x → x < w0.heap.size := fun x hx => (HT.out.ra.lt x hx).2
  have O2 : w2.ownsRow w0.heap.size 35 1 v fs.length (fs.map Fr.v) := G2.row O1 (fun x hx hr => by have := nr x hr; have := hvr x hx; omega)
  have hf2 : ∀ f ∈ fs, ∃ b, Owns w2 b f.v f.b := fun f hf => ⟨base, G2.row (hf1 f hf) (fun x hx hr => by
    rcases (hd1 x (hfx f hf x hx)).1 with h1 | h1
    · exact HT.out.dis x h1 hr
    · have := nr x hr; omega)⟩
  have hl : ∀ f ∈ fs, f.b.length ≤ 65535 := fun f hf => HT.out.ok _ (by rw [← HL.out.1]; exact List.mem_map_of_mem hf)
  have hn : fs.length ≤ 100000 := by
    have h1 := all_small HT.out.ra
    rw [← HT.out.abs, ← HL.out.1, List.length_map] at h1
    omega
  have hss : fs.map Fr.b = fs2.map Fr.b := by rw [HL.out.1, hfs2, HT.out.abs]
  obtain ⟨a2, c2, hv2, C2, -⟩ := OR.cv
  rw [List.length_map] at hv2
  have CS := sameF_any O2 ⟨a2, c2, hv2, C2⟩ hf2 (fun f hf => ⟨base, hown2 f hf⟩) hss (fun b hb => by obtain ⟨f, hf, rfl⟩ := List.mem_map.1 hb; exact hl f hf) hn
  obtain ⟨a1, c1, hv1⟩ : ∃ (a : Option Addr) (c : Nat), v = .slice a fs.length c := by
    obtain ⟨a, c, hv, -⟩ := CV.ofRow O2
    exact ⟨a, c, hv⟩
  have HE : Hid (∀ w3 w4, w2.grownBy w3 none → GW w3 w4 (fun x => v.ownBlock = some x ∨ fsBlk fs x) → ToldP w base q r (.returned (.bool true)) w4) := fun w3 w4 K3 G4 => by
    refine HB.out _ _ (told_end (S := fun x => v.ownBlock = some x ∨ fsBlk fs x) T2 HL.out.2.1 hg2 GG HL.out.2.2.2.2.2.1 FF ((GW.non (S := fun x => v.ownBlock = some x ∨ fsBlk fs x) K3).trans G4 (fun x _ hx => hx)) (fun x hx => ?_))
    rcases hx with hx | hx
    · have := hvr x hx
      exact ⟨fun hlt => by omega, hv0 x hx, dd x (.inr this)⟩
    · obtain ⟨h1, h2⟩ := hd1 x hx
      refine ⟨fun hlt => .inl (h1.elim id (fun h => by omega)), h2, dd x (h1.elim .inl (fun h => .inr ⟨h, ?_⟩))⟩
      obtain ⟨f, hf, hx'⟩ := List.mem_flatMap.1 hx
      exact hfl f hf x (mem_gf1.1 hx')
  have HS : Hid (w2.ownsRow w0.heap.size 35 1 v fs.length (fs.map Fr.v) ∧ (∀ f ∈ fs, ∃ b, Owns w2 b f.v f.b) ∧ (∀ x, (fs.flatMap gf1).count x ≤ 1) ∧ (∀ f ∈ fs, f.b.length ≤ 65535) ∧ fs.length ≤ 100000) := ⟨O2, hf2, hc1, hl, hn⟩
  clear hfs2 hg2 hcl2 R G2 F2 OR hown2 hab hok T2 GG FF dd O1 hf1 hc1 hd1 hv0 hvr hfx hfl nr O2 hf2 hl hn hss C2
  subst hv1 hv2
  go_wp2_with fail
  refine CS.mono ?_
  rintro e w3 ⟨rfl, K3⟩
  clear CS
  have SP := spoilLists_any w0.heap.size (.slice a1 fs.length c1) fs w3 (owns_keptNone HS.out.1 K3) (fun f hf => by obtain ⟨b, O⟩ := HS.out.2.1 f hf; exact ⟨b, owns_keptNone O K3⟩) HS.out.2.2.1 HS.out.2.2.2.1 HS.out.2.2.2.2
  go_wp2_with fail
  refine SP.mono ?_
  rintro e w4 ⟨rfl, G4⟩
  have HF : Hid (ToldP w base q r (.returned (.bool true)) w4) := HE.out w3 w4 K3 G4
  clear SP G4 HE K3
  go_wp2
  go_ret
  exact HF.out

end Go.Proofs.Ytlfjpbedjmnpaaa
