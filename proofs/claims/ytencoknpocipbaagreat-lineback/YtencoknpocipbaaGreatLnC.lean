/-
  Package line as landed: what a writer holds; leave.
-/
import Derived.Test.YtencoknpocipbaaGreatLnB
import Derived.Test.YtencoknpocipbaaGreatLotP7
namespace Go.Proofs.YtencoknpocipbaaGreat
open Go.RowKit
open Go.Maps
set_option maxRecDepth 100000

/-- A jump whose goals are filled in at the end; where its list of detours lies. -/
structure Jp where
  at' : Int
  yes : Int
  no : Int
  d : List Int
  da : Option Addr
  dc : Nat
def Jp.dv (j : Jp) : Value := .slice j.da j.d.length j.dc
def Jp.cells (j : Jp) : List Value := [.int .i64 j.at', .int .i64 j.yes, .int .i64 j.no, .slice j.da j.d.length j.dc]
def flatJ (js : List Jp) : List Value := js.flatMap Jp.cells
theorem flatJ_append (xs ys : List Jp) : flatJ (xs ++ ys) = flatJ xs ++ flatJ ys := by simp only [flatJ, List.flatMap_append]
theorem flatJ_one (j : Jp) : flatJ [j] = j.cells := by simp [flatJ]
theorem flatJ_len (xs : List Jp) : (flatJ xs).length = xs.length * 4 := by
  induction xs with
  | nil => rfl
  | cons x xs ih => rw [flatJ, List.flatMap_cons, List.length_append, List.length_cons]; rw [flatJ] at ih; rw [ih]; simp only [Jp.cells, List.length_cons, List.length_nil]; omega
theorem Jp.cells_one (j : Jp) : ∀ u ∈ j.cells, u.oneCell' = true := by
  intro u hu
  simp only [Jp.cells, List.mem_cons, List.not_mem_nil, or_false] at hu
  rcases hu with rfl | rfl | rfl | rfl <;> rfl

theorem lkey : Keyed Tryz.prog 3 := int_keyed Tryz.underlying3
abbrev MOwns (w : World) (b n : Nat) (D : DataW Unit) : Prop := w.ownsMap Tryz.prog 3 (plainElem Tryz.prog 3) b n D
theorem map_no {w : World} {b n g t : Nat} {D : DataW Unit} {cs : Array Value} (h : MOwns w b n D) (A : w.heap[g]? = some (.cells cs t (0, 0))) : b ≠ g := fun e => by
  obtain ⟨es, clock, hb, -⟩ := h
  subst e
  rw [hb] at A
  cases A

theorem cv_map {w : World} {a : Option Addr} {vs : List Value} {b n : Nat} {D : DataW Unit} (h : CV w a vs) (M : MOwns w b n D) : ∀ ad, a = some ad → vs ≠ [] → some ad.block ≠ some b := fun ad had hne e => by
  subst had
  obtain ⟨es, clock, hb, -⟩ := M
  have h0 := h.2 ad rfl 0 (List.length_pos_iff.2 hne)
  have e' := Option.some.inj e
  subst e'
  have h1 : (ad.add 0).block = ad.block := rfl
  unfold World.cell? at h0
  rw [h1, hb] at h0
  simp at h0
theorem zcv {w : World} {base dc n : Nat} {da : Option Addr} {d : List Int} (O : w.ownsRow base 3 1 (.slice da n dc) d.length (d.map iv)) : CV w da (d.map iv) := by
  obtain ⟨a, q, hy, h1, -⟩ := cv_of_row O
  injection hy with e1
  subst e1
  exact h1

/-- What a writer holds. -/
structure WS (w : World) (base W mb : Nat) (pv jv : Value) (prog : List In) (js : List Jp) (n : Nat) (D : DataW Unit) : Prop where
  cell : VAt w W 47 #[pv, .map (some mb), jv]
  own : IOwns w base pv prog
  jown : w.ownsRow base 86 4 jv js.length (flatJ js)
  mown : MOwns w mb n D
  wb : base ≤ W
  mbb : base ≤ mb
  sz : base ≤ w.heap.size
theorem WS.kept {w w' : World} {base W mb n : Nat} {pv jv : Value} {prog : List In} {js : List Jp} {D : DataW Unit} (h : WS w base W mb pv jv prog js n D) (K : w.grownBy w' none) : WS w' base W mb pv jv prog js n D :=
  ⟨h.cell.kept K, owns_keptNone h.own K, owns_keptNone h.jown K, h.mown.kept K (by simp), h.wb, h.mbb, Nat.le_trans h.sz K.size⟩

/-- Blocks of ints, and of lists of ints, stay. -/
def NK (w : World) (x : Nat) : Prop := ∀ cs t, w.heap[x]? = some (.cells cs t (0, 0)) → t ≠ 3 ∧ t ≠ 50 ∧ t ≠ 56
def WG (base : Nat) (w w' : World) : Prop := GB w w' (fun x => base ≤ x ∧ NK w x)
theorem WG.non {base : Nat} {w w' : World} (h : w.grownBy w' none) : WG base w w' := GB.non h
theorem WG.trans {base : Nat} {w w1 w2 : World} (h : WG base w w1) (k : WG base w1 w2) : WG base w w2 := GB.trans h k fun x hx hm => by
  by_cases hh : base ≤ x ∧ NK w x
  · exact hh
  · have := h.block x hx hh
    refine ⟨hm.1, fun cs t ht => hm.2 cs t (by rw [this]; exact ht)⟩
theorem nk_vat {w : World} {g t : Nat} {cs : Array Value} (A : w.heap[g]? = some (.cells cs t (0, 0))) (h1 : t ≠ 3) (h2 : t ≠ 50 := by decide) (h3 : t ≠ 56 := by decide) : NK w g := fun cs' t' h => by
  rw [A] at h
  injection h with h
  injection h with _ h
  exact h ▸ ⟨h1, h2, h3⟩
theorem nk_map {w : World} {b n : Nat} {D : DataW Unit} (h : MOwns w b n D) : NK w b := fun _ _ ht => absurd rfl (map_no h ht)
theorem WG.vat {base g t : Nat} {w w' : World} {cs : Array Value} (h : WG base w w') (A : VAt w g t cs) (ht : t = 3 ∨ t = 50 ∨ t = 56) : VAt w' g t cs := GB.vat h A fun hm => by
  have := hm.2 cs t A
  rcases ht with e | e | e
  · exact this.1 e
  · exact this.2.1 e
  · exact this.2.2 e
theorem WG.owns {base base' e size n : Nat} {w w' : World} {v : Value} {vs : List Value} (h : WG base w w') (O : w.ownsRow base' e size v n vs) (ht : e = 3 ∨ e = 50) : w'.ownsRow base' e size v n vs := GB.owns h O fun x hx hm => by
  obtain ⟨cur, hg⟩ := own_kind O hx
  have := hm.2 cur e hg
  rcases ht with q | q
  · exact this.1 q
  · exact this.2.1 q
theorem WG.grown {w w' : World} (h : WG w.heap.size w w') : w.grownBy w' none := GB.grown h fun x hx hm => by have := hm.1; omega
theorem WG.of {base : Nat} {w w' : World} {S : Nat → Prop} (h : GB w w' S) (hs : ∀ x, S x → base ≤ x ∧ NK w x) : WG base w w' := GB.mono h hs

theorem insn_ne_w : (54 : Nat) ≠ 47 := by decide
theorem jump_ne_w : (86 : Nat) ≠ 47 := by decide
theorem jump_ne_i : (86 : Nat) ≠ 54 := by decide
theorem own_nk {w : World} {base e size n x : Nat} {v : Value} {vs : List Value} (O : w.ownsRow base e size v n vs) (h1 : e ≠ 3) (h2 : e ≠ 50) (hx : v.ownBlock = some x) (h3 : e ≠ 56 := by decide) : base ≤ x ∧ NK w x := by
  obtain ⟨cur, hg⟩ := own_kind O hx
  exact ⟨(O.lt x hx).1, nk_vat hg h1 h2 h3⟩

/-- The program has grown: the writer's state then. -/
theorem WS.lay {w w' : World} {base W mb n : Nat} {pv jv : Value} {prog code : List In} {js : List Jp} {D : DataW Unit} (h : WS w base W mb pv jv prog js n D) (L : LayW w w' base W pv (.map (some mb)) jv (prog ++ code)) : (∃ pv', WS w' base W mb pv' jv (prog ++ code) js n D) ∧ WG base w w' := by
  obtain ⟨⟨pv', V, O⟩, F⟩ := L
  refine ⟨⟨pv', V, O, F.owns h.jown (fun x hx hm => ?_), ?_, h.wb, h.mbb, Nat.le_trans h.sz F.size⟩, WG.of F fun x hx => ?_⟩
  · rcases hm with rfl | hm
    · exact own_vat h.jown h.cell jump_ne_w hx
    · exact own_other h.jown h.own jump_ne_i hx hm
  · have hb := h.mown.lt
    have hns : ¬ (mb = W ∨ pv.ownBlock = some mb) := fun e => by
      rcases e with e | e
      · exact map_no h.mown h.cell e
      · obtain ⟨cur, hg⟩ := own_kind h.own e
        exact map_no h.mown hg rfl
    have := F.block mb hb hns
    obtain ⟨es, clock, q1, q2⟩ := h.mown
    exact ⟨es, clock, by rw [this]; exact q1, q2⟩
  · rcases hx with rfl | hx
    · exact ⟨h.wb, nk_vat h.cell (by decide) (by decide)⟩
    · exact own_nk h.own (by decide) (by decide) hx

theorem lit_insn18 (x : In) (W : World) : (Instr.buildSlice 24 1 #[(0, .agg x.cells.toArray)]).run Tryz.prog W = .ok (.slice (some ⟨W.heap.size, 0, none⟩) 1 1) (W.alloc (.cells x.cells.toArray 54)) := by kernel_rfl
theorem box_insn18 (x : In) (W : World) : (Instr.box 54 (.agg x.cells.toArray)).run Tryz.prog W = .ok (.pointer (some ⟨W.heap.size, 0, none⟩)) (W.alloc (.cells x.cells.toArray 54)) := by kernel_rfl
theorem lit_jump (j : Jp) (W : World) : (Instr.buildSlice 45 1 #[(0, .agg j.cells.toArray)]).run Tryz.prog W = .ok (.slice (some ⟨W.heap.size, 0, none⟩) 1 1) (W.alloc (.cells j.cells.toArray 86)) := by kernel_rfl
theorem box_jump (j : Jp) (W : World) : (Instr.box 86 (.agg j.cells.toArray)).run Tryz.prog W = .ok (.pointer (some ⟨W.heap.size, 0, none⟩)) (W.alloc (.cells j.cells.toArray 86)) := by kernel_rfl
theorem info_jump : (Tryz.prog.info? 86).map (fun i => (i.zero, i.size, i.bytes)) = some (some (.agg #[.int .i64 0, .int .i64 0, .int .i64 0, .slice none 0 0]), 4, 48) := by kernel_rfl

/-- A jump was laid behind the others. -/
theorem WS.jump {w w2 : World} {base W mb n : Nat} {pv jv jv' : Value} {prog : List In} {js : List Jp} {j : Jp} {D : DataW Unit} (h : WS w base W mb pv jv prog js n D) (O : w2.ownsRow base 86 4 jv' (js.length + 1) (flatJ js ++ j.cells)) (K : w.grownBy w2 jv.ownBlock) :
    WS (w2.setCell ⟨W, 2, none⟩ jv') base W mb pv jv' prog (js ++ [j]) n D ∧ WG base w (w2.setCell ⟨W, 2, none⟩ jv') := by
  have G : w2.grownBy (w2.setCell ⟨W, 2, none⟩ jv') (some W) := grown_setCell (World.grownBy.refl _ _) _ _ (.inl rfl)
  have hW : ¬ jv.ownBlock = some W := own_vat h.jown h.cell jump_ne_w
  have V1 : VAt w2 W 47 #[pv, .map (some mb), jv] := h.cell.grown K hW
  have V2 := V1.set 2 jv'
  have F : GB w w2 (fun x => jv.ownBlock = some x) := GB.of K fun x hx => hx
  have O1 : IOwns w2 base pv prog := F.owns h.own fun x hx hm => own_other h.jown h.own jump_ne_i hm hx
  have O2 : w2.ownsRow base 86 4 jv' (js ++ [j]).length (flatJ (js ++ [j])) := by
    rw [List.length_append, flatJ_append, flatJ_one]
    exact O
  have M1 : MOwns w2 mb n D := by
    have hb := h.mown.lt
    have := F.block mb hb (fun e => by
      obtain ⟨cur, hg⟩ := own_kind h.jown e
      exact map_no h.mown hg rfl)
    obtain ⟨es, clock, q1, q2⟩ := h.mown
    exact ⟨es, clock, by rw [this]; exact q1, q2⟩
  have hmw : some mb ≠ some W := fun e => map_no h.mown h.cell (Option.some.inj e)
  refine ⟨⟨V2, own_kept O1 G (own_vat O1 V1 insn_ne_w), own_kept O2 G (own_vat O2 V1 jump_ne_w), M1.kept G hmw, h.wb, h.mbb, Nat.le_trans h.sz (Nat.le_trans K.size G.size)⟩, WG.trans (WG.of F fun x hx => own_nk h.jown (by decide) (by decide) hx) (WG.of (GB.of (S := fun x => x = W) G fun x hx => (Option.some.inj hx).symm) fun x hx => ?_)⟩
  subst hx
  exact ⟨h.wb, nk_vat V1 (by decide) (by decide)⟩

set_option maxHeartbeats 4000000 in
theorem wleave_any (w : World) (base W mb n : Nat) (pv jv : Value) (prog : List In) (js : List Jp) (D : DataW Unit) (H : WS w base W mb pv jv prog js n D) (x : In) (j : Jp) (hl : prog.length ≤ 100000) (hj : js.length ≤ 100000) :
    Calls Tryz.prog 29 #[.pointer (some ⟨W, 0, none⟩), .agg x.cells.toArray, .agg j.cells.toArray] w fun e w' => e = .returned (.tuple #[]) ∧ (∃ pv' jv', WS w' base W mb pv' jv' (prog ++ [x]) (js ++ [j]) n D) ∧ WG base w w' := by
  have LI := lit_insn18 x
  have LJ := lit_jump j
  have BI := box_insn18 x
  have BJ := box_jump j
  obtain ⟨X, hX⟩ : ∃ X, x.cells.toArray = X := ⟨_, rfl⟩
  obtain ⟨J, hJ⟩ : ∃ J, j.cells.toArray = J := ⟨_, rfl⟩
  have hXs : X.size = 4 := by rw [← hX]; rfl
  have hJs : J.size = 4 := by rw [← hJ]; rfl
  rw [hX] at LI BI ⊢
  rw [hJ] at LJ BJ ⊢
  have HLI : Hid (∀ W : World, (Instr.buildSlice 24 1 #[(0, .agg X)]).run Tryz.prog W = .ok (.slice (some ⟨W.heap.size, 0, none⟩) 1 1) (W.alloc (.cells x.cells.toArray 54))) := fun W => by rw [hX]; exact LI W
  have HLJ : Hid (∀ W : World, (Instr.buildSlice 45 1 #[(0, .agg J)]).run Tryz.prog W = .ok (.slice (some ⟨W.heap.size, 0, none⟩) 1 1) (W.alloc (.cells j.cells.toArray 86))) := fun W => by rw [hJ]; exact LJ W
  have hne : w.heap.size + 1 = (w.alloc (.cells X 54)).heap.size := by simp
  have V0 := VAt.alloc w 54 X
  have G0 := World.grownBy_alloc w (.cells X 54) none
  have V1 := VAt.alloc (w.alloc (.cells X 54)) 86 J
  have G1 := World.grownBy_alloc (w.alloc (.cells X 54)) (.cells J 86) none
  have V0' := V0.kept G1
  have K1 := grown_trans G0 G1
  have HH : Hid (WS ((w.alloc (.cells X 54)).alloc (.cells J 86)) base W mb pv jv prog js n D) := H.kept K1
  have HF : Hid (WG base w ((w.alloc (.cells X 54)).alloc (.cells J 86))) := WG.non K1
  rw [← hne] at V1
  have HS : Hid ((VAt ((w.alloc (.cells X 54)).alloc (.cells J 86)) w.heap.size 54 X ∧ VAt ((w.alloc (.cells X 54)).alloc (.cells J 86)) (w.heap.size + 1) 86 J) ∧ (Tryz.prog.info? 54).map (·.size) = some X.size ∧ (Tryz.prog.info? 86).map (·.size) = some J.size) := ⟨⟨V0', V1⟩, by rw [hXs]; kernel_rfl, by rw [hJs]; kernel_rfl⟩
  have HN : Hid (∀ y, (y = W ∨ pv.ownBlock = some y ∨ jv.ownBlock = some y) → y < w.heap.size) := by
    intro y hy
    rcases hy with rfl | hy | hy
    · exact H.cell.lt
    · exact (H.own.lt y hy).2
    · exact (H.jown.lt y hy).2
  have HL : Hid (prog.length ≤ 100000 ∧ js.length ≤ 100000) := ⟨hl, hj⟩
  clear V0 G0 V1 G1 V0' K1 hne H LI LJ hX hJ hXs hJs hl hj
  go_enter Tryz.func29, Tryz.ntmps29
  go_upto_region 1 with fail
  generalize (w.alloc (.cells X 54)).alloc (.cells J 86) = w1 at *
  obtain ⟨B, hB⟩ : ∃ B, w.heap.size + 1 = B := ⟨_, rfl⟩
  obtain ⟨A, hA⟩ : ∃ A, w.heap.size = A := ⟨_, rfl⟩
  rw [hB] at HS ⊢
  rw [hA] at HS HN hB ⊢
  have HAB : Hid (A + 1 = B) := hB
  clear hA hB BI BJ
  refine wp_region_held_drew (S := fun W' => VAt W' A 54 X ∧ VAt W' B 86 J) (by kernel_rfl) (HS.out.1) (fun hHeld => ?_)
  refine wpAnyH_take (i := 0) (v := .pointer (some ⟨W, 0, none⟩)) rfl (by kernel_rfl) (by kernel_rfl) (by kernel_rfl) (fun _ _ _ h => h) (Or.inl ⟨by rfl, fun W hW => ?_⟩) hHeld ?_
  · clear hW
    go_simp
  try simp only [Act.put, List.getElem_toArray, List.getElem_cons_zero, List.setIfInBounds_toArray, List.set_cons_zero, List.set_cons_succ]
  refine wpAnyH_take (i := 1) (v := .pointer (some ⟨W, 0, none⟩)) rfl (by kernel_rfl) (by kernel_rfl) (by kernel_rfl) (fun _ _ _ h => h) (Or.inl ⟨by rfl, fun W hW => ?_⟩) hHeld ?_
  · clear hW
    go_simp
  try simp only [Act.put, List.getElem_toArray, List.getElem_cons_zero, List.getElem_cons_succ, List.setIfInBounds_toArray, List.set_cons_zero, List.set_cons_succ]
  refine wpAnyH_take (i := 2) (v := .pointer (some ⟨W, 0, none⟩)) rfl (by kernel_rfl) (by kernel_rfl) (by kernel_rfl) (fun _ _ _ h => h) (Or.inl ⟨by rfl, fun W hW => ?_⟩) hHeld ?_
  · clear hW
    go_simp
  try simp only [Act.put, List.getElem_toArray, List.getElem_cons_zero, List.getElem_cons_succ, List.setIfInBounds_toArray, List.set_cons_zero, List.set_cons_succ]
  refine wpAnyH_take (i := 3) (v := .agg (X)) rfl (by kernel_rfl) (by kernel_rfl) (by kernel_rfl) (fun _ _ _ h => h) (gyieldsIf_load_row (by rfl) _ _ rfl A rfl 54 (X) _ (fun W hW => hW.1) Tryz.underlying54 rfl HS.out.2.1) hHeld ?_
  try simp only [Act.put, List.getElem_toArray, List.getElem_cons_zero, List.getElem_cons_succ, List.setIfInBounds_toArray, List.set_cons_zero, List.set_cons_succ]
  refine wpAnyH_ready (rs := [4]) (by kernel_rfl) (by simp) (AllReadyH.cons rfl (fun K hK => ?_) AllReadyH.nil)
  refine step_lit (by rfl) 24 1 _ (by rfl) _ (by kernel_rfl) x.cells 54 HLI.out ?_
  intro ad w2 C2 K2
  have K2' : w1.grownBy w2 none := grown_trans (grown_drewN w1 1 none) K2
  have H2 := HH.out.kept K2'
  have F2 := HF.out.trans (WG.non K2')
  have C2' : CV w2 (some ad) (flat [x]) := by rw [flat_cons, flat_nil, List.append_nil]; exact C2
  have HH2 : Hid (WS w2 base W mb pv jv prog js n D) := H2
  have HF2 : Hid (WG base w w2) := F2
  have HC2 : Hid (CV w2 (some ad) (flat [x])) := C2'
  have hs2 : VAt w2 A 54 X ∧ VAt w2 B 86 J := ⟨HS.out.1.1.kept K2', HS.out.1.2.kept K2'⟩
  refine hK.out _ _ hs2 (fun hHeld => ?_)
  clear hK K C2 K2 K2' H2 F2 C2' HH HF
  try simp only [Act.put, List.getElem_toArray, List.getElem_cons_zero, List.getElem_cons_succ, List.setIfInBounds_toArray, List.set_cons_zero, List.set_cons_succ]
  refine wpAnyH_ready (rs := [5]) (by kernel_rfl) (by simp) (AllReadyH.cons rfl (fun K hK => ?_) AllReadyH.nil)
  go_simp
  refine (play_any w2 base W pv (.map (some mb)) jv prog [x] (some ad) 1 HH2.out.cell HH2.out.own HC2.out (fun h => by cases h) HH2.out.sz (by have := HL.out.1; simp; omega)).mono ?_
  rintro e w3 ⟨rfl, L⟩
  have hA3 : VAt w3 A 54 X := L.fr.vat hs2.1 (fun e => e.elim (fun e => by have := HN.out A (.inl e); omega) (fun e => by have := HN.out A (.inr (.inl e)); omega))
  have hB3 : VAt w3 B 86 J := L.fr.vat hs2.2 (fun e => e.elim (fun e => by have := HN.out B (.inl e); have := HAB.out; omega) (fun e => by have := HN.out B (.inr (.inl e)); have := HAB.out; omega))
  obtain ⟨⟨pv3, H3⟩, F3⟩ := HH2.out.lay L
  have HH3 : Hid (WS w3 base W mb pv3 jv (prog ++ [x]) js n D) := H3
  have HF3 : Hid (WG base w w3) := HF2.out.trans F3
  have HB3 : Hid (VAt w3 B 86 J) := hB3
  refine hK.out _ _ ⟨hA3, hB3⟩ (fun hHeld => ?_)
  clear hK K hHeld H3 F3 L hA3 hs2 HC2 HH2 HF2 hB3
  try simp only [Act.put, List.getElem_toArray, List.getElem_cons_zero, List.getElem_cons_succ, List.setIfInBounds_toArray, List.set_cons_zero, List.set_cons_succ]
  refine wpAnyH_done (by kernel_rfl) ?_ _
  go_wp2_with fail
  have HSB : Hid ((Tryz.prog.info? 86).map (·.size) = some J.size) := HS.out.2.2
  obtain ⟨i0, hi, hz0, hz1, hz2⟩ := info_parts info_jump
  have c2 : w3.cell? ⟨W, 2, none⟩ = some jv := HH3.out.cell.cell 2
  clear HS HLI
  refine wp_region_held_drew (S := fun W' => VAt W' B 86 J) (by kernel_rfl) (HB3.out) (fun hHeld => ?_)
  refine wpAnyH_take (i := 0) (v := .pointer (some ⟨W, 0, none⟩)) rfl (by kernel_rfl) (by kernel_rfl) (by kernel_rfl) (fun _ _ _ h => h) (Or.inl ⟨by rfl, fun W hW => ?_⟩) hHeld ?_
  · clear hW
    go_simp
  try simp only [Act.put, List.getElem_toArray, List.getElem_cons_zero, List.setIfInBounds_toArray, List.set_cons_zero, List.set_cons_succ]
  refine wpAnyH_take (i := 1) (v := .pointer (some ⟨W, 0, none⟩)) rfl (by kernel_rfl) (by kernel_rfl) (by kernel_rfl) (fun _ _ _ h => h) (Or.inl ⟨by rfl, fun W hW => ?_⟩) hHeld ?_
  · clear hW
    go_simp
  try simp only [Act.put, List.getElem_toArray, List.getElem_cons_zero, List.getElem_cons_succ, List.setIfInBounds_toArray, List.set_cons_zero, List.set_cons_succ]
  refine wpAnyH_take (i := 2) (v := .pointer (some ⟨W, 0, none⟩)) rfl (by kernel_rfl) (by kernel_rfl) (by kernel_rfl) (fun _ _ _ h => h) (Or.inl ⟨by rfl, fun W hW => ?_⟩) hHeld ?_
  · clear hW
    go_simp
  try simp only [Act.put, List.getElem_toArray, List.getElem_cons_zero, List.getElem_cons_succ, List.setIfInBounds_toArray, List.set_cons_zero, List.set_cons_succ]
  refine wpAnyH_take (i := 3) (v := .pointer (some ⟨W, 2, none⟩)) rfl (by kernel_rfl) (by kernel_rfl) (by kernel_rfl) (fun _ _ _ h => h) (Or.inl ⟨by rfl, fun W hW => ?_⟩) hHeld ?_
  · clear hW
    go_simp
  try simp only [Act.put, List.getElem_toArray, List.getElem_cons_zero, List.getElem_cons_succ, List.setIfInBounds_toArray, List.set_cons_zero, List.set_cons_succ]
  refine wpAnyH_take (i := 5) (v := .agg (J)) rfl (by kernel_rfl) (by kernel_rfl) (by kernel_rfl) (fun _ _ _ h => h) (gyieldsIf_load_row (by rfl) _ _ rfl B rfl 86 (J) _ (fun W hW => hW) Tryz.underlying86 rfl HSB.out) hHeld ?_
  try simp only [Act.put, List.getElem_toArray, List.getElem_cons_zero, List.getElem_cons_succ, List.setIfInBounds_toArray, List.set_cons_zero, List.set_cons_succ]
  refine wpAnyH_ready (rs := [4, 6]) (by kernel_rfl) (by simp) (AllReadyH.cons rfl (fun K hK => ?_) (AllReadyH.cons rfl (fun K hK => ?_) AllReadyH.nil))
  · go_simp
    refine hK.out _ _ HB3.out (fun hHeld => ?_)
    clear hK K
    try simp only [Act.put, List.getElem_toArray, List.getElem_cons_zero, List.getElem_cons_succ, List.setIfInBounds_toArray, List.set_cons_zero, List.set_cons_succ]
    refine wpAnyH_ready (rs := [6]) (by kernel_rfl) (by simp) (AllReadyH.cons rfl (fun K hK => ?_) AllReadyH.nil)
    refine step_lit (by rfl) 45 1 _ (by rfl) _ (by kernel_rfl) j.cells 86 HLJ.out ?_
    intro ad w4 C4 K4
    have K4' : w3.grownBy w4 none := grown_trans (grown_drewN w3 1 none) K4
    have H4 := HH3.out.kept K4'
    have F4 := HF3.out.trans (WG.non K4')
    have hb4 := HB3.out.kept K4'
    have c4 : w4.cell? ⟨W, 2, none⟩ = some jv := H4.cell.cell 2
    refine hK.out _ _ hb4 (fun hHeld => ?_)
    clear hK K
    try simp only [Act.put, List.getElem_toArray, List.getElem_cons_zero, List.getElem_cons_succ, List.setIfInBounds_toArray, List.set_cons_zero, List.set_cons_succ]
    refine wpAnyH_ready (rs := [7]) (by kernel_rfl) (by simp) (AllReadyH.cons rfl (fun K hK => ?_) AllReadyH.nil)
    refine step_append_own (by rfl) (.tmp 16) (.tmp 18) 45 (by rfl) 86 i0 _ 4 48 Tryz.underlying45 hi hz0 hz1 hz2 rfl (by decide) base jv js.length (flatJ js) (by rfl) H4.jown ad 1 1 j.cells (by rfl) rfl C4 j.cells_one (by have := HL.out.2; unfold maxLen; omega) (by have := HL.out.2; omega) H4.sz ?_
    intro v5 w5 O5 K5 B5
    have hb5 : VAt w5 B 86 J := hb4.grown K5 (fun e => by have := HN.out B (.inr (.inr e)); have := HAB.out; omega)
    obtain ⟨H6, F6⟩ := H4.jump (j := j) O5 K5
    have hb6 := hb5.setOther (k := W) (i := 2) v5 (fun e => by have := HN.out B (.inl e); have := HAB.out; omega)
    have HE : Hid ((∃ pv' jv', WS (w5.setCell ⟨W, 2, none⟩ v5) base W mb pv' jv' (prog ++ [x]) (js ++ [j]) n D) ∧ WG base w (w5.setCell ⟨W, 2, none⟩ v5)) := ⟨⟨_, _, H6⟩, F4.trans F6⟩
    have VW := H4.cell.grown K5 (own_vat H4.jown H4.cell jump_ne_w)
    have c5 : w5.cell? ⟨W, 2, none⟩ = some jv := VW.cell 2
    have f5 : w5.frozen? ⟨W, 2, none⟩ = false := VW.free 2
    obtain ⟨a5, l5, k5, hv5⟩ := own_sl O5
    subst hv5
    refine hK.out _ _ hb5 (fun hHeld => ?_)
    clear hK K
    try simp only [Act.put, List.getElem_toArray, List.getElem_cons_zero, List.getElem_cons_succ, List.setIfInBounds_toArray, List.set_cons_zero, List.set_cons_succ]
    refine wpAnyH_take (i := 8) (v := .pointer (some ⟨W, 0, none⟩)) rfl (by kernel_rfl) (by kernel_rfl) (by kernel_rfl) (fun _ _ _ h => h) (Or.inl ⟨by rfl, fun W hW => ?_⟩) hHeld ?_
    · clear hW
      go_simp
    try simp only [Act.put, List.getElem_toArray, List.getElem_cons_zero, List.getElem_cons_succ, List.setIfInBounds_toArray, List.set_cons_zero, List.set_cons_succ]
    refine wpAnyH_take (i := 9) (v := .pointer (some ⟨W, 2, none⟩)) rfl (by kernel_rfl) (by kernel_rfl) (by kernel_rfl) (fun _ _ _ h => h) (Or.inl ⟨by rfl, fun W hW => ?_⟩) hHeld ?_
    · clear hW
      go_simp
    try simp only [Act.put, List.getElem_toArray, List.getElem_cons_zero, List.getElem_cons_succ, List.setIfInBounds_toArray, List.set_cons_zero, List.set_cons_succ]
    refine wpAnyH_ready (rs := [10]) (by kernel_rfl) (by simp) (AllReadyH.cons rfl (fun K hK => ?_) AllReadyH.nil)
    go_simp
    refine hK.out _ _ hb6 (fun hHeld => ?_)
    refine wpAnyH_done (by kernel_rfl) ?_ _
    clear hK K hHeld O5 K5 B5 C4 K4 K4' H4 F4 hb4 c4 H6 F6 hb6 hb5 VW c5 f5
    go_wp2
    go_end0
    exact ⟨rfl, HE.out⟩
  · refine step_lit (by rfl) 45 1 _ (by rfl) _ (by kernel_rfl) j.cells 86 HLJ.out ?_
    intro ad w4 C4 K4
    have K4' : w3.grownBy w4 none := grown_trans (grown_drewN w3 1 none) K4
    have H4 := HH3.out.kept K4'
    have F4 := HF3.out.trans (WG.non K4')
    have hb4 := HB3.out.kept K4'
    have c4 : w4.cell? ⟨W, 2, none⟩ = some jv := H4.cell.cell 2
    refine hK.out _ _ hb4 (fun hHeld => ?_)
    clear hK K
    try simp only [Act.put, List.getElem_toArray, List.getElem_cons_zero, List.getElem_cons_succ, List.setIfInBounds_toArray, List.set_cons_zero, List.set_cons_succ]
    refine wpAnyH_ready (rs := [4]) (by kernel_rfl) (by simp) (AllReadyH.cons rfl (fun K hK => ?_) AllReadyH.nil)
    go_simp
    refine hK.out _ _ hb4 (fun hHeld => ?_)
    clear hK K
    try simp only [Act.put, List.getElem_toArray, List.getElem_cons_zero, List.getElem_cons_succ, List.setIfInBounds_toArray, List.set_cons_zero, List.set_cons_succ]
    refine wpAnyH_ready (rs := [7]) (by kernel_rfl) (by simp) (AllReadyH.cons rfl (fun K hK => ?_) AllReadyH.nil)
    refine step_append_own (by rfl) (.tmp 16) (.tmp 18) 45 (by rfl) 86 i0 _ 4 48 Tryz.underlying45 hi hz0 hz1 hz2 rfl (by decide) base jv js.length (flatJ js) (by rfl) H4.jown ad 1 1 j.cells (by rfl) rfl C4 j.cells_one (by have := HL.out.2; unfold maxLen; omega) (by have := HL.out.2; omega) H4.sz ?_
    intro v5 w5 O5 K5 B5
    have hb5 : VAt w5 B 86 J := hb4.grown K5 (fun e => by have := HN.out B (.inr (.inr e)); have := HAB.out; omega)
    obtain ⟨H6, F6⟩ := H4.jump (j := j) O5 K5
    have hb6 := hb5.setOther (k := W) (i := 2) v5 (fun e => by have := HN.out B (.inl e); have := HAB.out; omega)
    have HE : Hid ((∃ pv' jv', WS (w5.setCell ⟨W, 2, none⟩ v5) base W mb pv' jv' (prog ++ [x]) (js ++ [j]) n D) ∧ WG base w (w5.setCell ⟨W, 2, none⟩ v5)) := ⟨⟨_, _, H6⟩, F4.trans F6⟩
    have VW := H4.cell.grown K5 (own_vat H4.jown H4.cell jump_ne_w)
    have c5 : w5.cell? ⟨W, 2, none⟩ = some jv := VW.cell 2
    have f5 : w5.frozen? ⟨W, 2, none⟩ = false := VW.free 2
    obtain ⟨a5, l5, k5, hv5⟩ := own_sl O5
    subst hv5
    refine hK.out _ _ hb5 (fun hHeld => ?_)
    clear hK K
    try simp only [Act.put, List.getElem_toArray, List.getElem_cons_zero, List.getElem_cons_succ, List.setIfInBounds_toArray, List.set_cons_zero, List.set_cons_succ]
    refine wpAnyH_take (i := 8) (v := .pointer (some ⟨W, 0, none⟩)) rfl (by kernel_rfl) (by kernel_rfl) (by kernel_rfl) (fun _ _ _ h => h) (Or.inl ⟨by rfl, fun W hW => ?_⟩) hHeld ?_
    · clear hW
      go_simp
    try simp only [Act.put, List.getElem_toArray, List.getElem_cons_zero, List.getElem_cons_succ, List.setIfInBounds_toArray, List.set_cons_zero, List.set_cons_succ]
    refine wpAnyH_take (i := 9) (v := .pointer (some ⟨W, 2, none⟩)) rfl (by kernel_rfl) (by kernel_rfl) (by kernel_rfl) (fun _ _ _ h => h) (Or.inl ⟨by rfl, fun W hW => ?_⟩) hHeld ?_
    · clear hW
      go_simp
    try simp only [Act.put, List.getElem_toArray, List.getElem_cons_zero, List.getElem_cons_succ, List.setIfInBounds_toArray, List.set_cons_zero, List.set_cons_succ]
    refine wpAnyH_ready (rs := [10]) (by kernel_rfl) (by simp) (AllReadyH.cons rfl (fun K hK => ?_) AllReadyH.nil)
    go_simp
    refine hK.out _ _ hb6 (fun hHeld => ?_)
    refine wpAnyH_done (by kernel_rfl) ?_ _
    clear hK K hHeld O5 K5 B5 C4 K4 K4' H4 F4 hb4 c4 H6 F6 hb6 hb5 VW c5 f5
    go_wp2
    go_end0
    exact ⟨rfl, HE.out⟩

end Go.Proofs.YtencoknpocipbaaGreat
