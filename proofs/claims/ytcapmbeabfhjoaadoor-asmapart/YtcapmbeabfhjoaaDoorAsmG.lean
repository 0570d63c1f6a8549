/-
  Package asm reads: a form's text made to steps.
-/
import Derived.Test.YtcapmbeabfhjoaaDoorAsmE
import Derived.Test.YtcapmbeabfhjoaaDoorICopy
namespace Go.Proofs.YtcapmbeabfhjoaaDoor
open Go.RowKit
set_option maxRecDepth 100000

theorem infoF : (Tryd.prog.info? 70).map (fun i => (i.zero, i.size, i.bytes)) = some (some .nilFunc, 1, 8) := by kernel_rfl

/-- The variable that holds the steps. -/
def HeadAt (w : World) (h : Nat) (v : Value) : Prop := w.heap[h]? = some (.cells #[v] 82 (0, 0))
theorem HeadAt.cell {w : World} {h : Nat} {v : Value} (H : HeadAt w h v) : w.cell? ⟨h, 0, none⟩ = some v := by
  unfold HeadAt at H
  simp [World.cell?, H]
theorem HeadAt.free {w : World} {h : Nat} {v : Value} (H : HeadAt w h v) : w.frozen? ⟨h, 0, none⟩ = false := by
  unfold HeadAt at H
  simp [World.frozen?, H]
theorem HeadAt.lt {w : World} {h : Nat} {v : Value} (H : HeadAt w h v) : h < w.heap.size := by
  unfold HeadAt at H
  by_cases hb : h < w.heap.size
  · exact hb
  · rw [Array.getElem?_eq_none (by omega)] at H; cases H
theorem HeadAt.grown {w w' : World} {h : Nat} {v : Value} {row : Option Nat} (H : HeadAt w h v) (G : w.grownBy w' row) (hr : row ≠ some h) : HeadAt w' h v := by
  have := G.block h H.lt (Ne.symm hr)
  unfold HeadAt at *
  rw [this, H]
theorem HeadAt.set {w : World} {h : Nat} {v : Value} (H : HeadAt w h v) (u : Value) : HeadAt (w.setCell ⟨h, 0, none⟩ u) h u := by
  unfold HeadAt at *
  simp [World.setCell, Array.getElem?_modify, H]

theorem own_slice {w : World} {base e n : Nat} {v : Value} {vs : List Value} (h : w.ownsRow base e 1 v n vs) : ∃ a c, v = .slice a n c := by
  rcases h.2 with ⟨rfl, rfl⟩ | ⟨g, cap, cur, rfl, -⟩
  · exact ⟨_, _, rfl⟩
  · exact ⟨_, _, rfl⟩

def plainN (s : List UInt8) : Nat := (s.takeWhile fun x => !letterB x).length

theorem letters_has (x : UInt8) : ([67, 84, 70, 75] : List UInt8).contains x = letterB x := by
  simp only [List.contains_cons, List.contains_nil, Bool.or_false, letterB]

theorem plain_take (s : List UInt8) : s.take (plainN s) = s.takeWhile fun x => !letterB x := by
  unfold plainN
  induction s with
  | nil => rfl
  | cons x s ih =>
    simp only [List.takeWhile_cons]
    split
    · simp [ih]
    · rfl
theorem plain_all (s : List UInt8) : (s.take (plainN s)).all (fun x => !letterB x) = true := by
  rw [plain_take]; exact List.all_takeWhile
theorem plain_le (s : List UInt8) : plainN s ≤ s.length := (List.takeWhile_sublist _).length_le
theorem plain_next (s : List UInt8) (h : plainN s < s.length) : letterB s[plainN s] = true := by
  unfold plainN at *
  induction s with
  | nil => simp at h
  | cons x s ih =>
    cases hx : letterB x with
    | true => simp [hx]
    | false =>
      simp only [List.takeWhile_cons, hx, Bool.not_false, if_true, List.length_cons] at h ⊢
      simpa using ih (by omega)

theorem plain_no (s : List UInt8) (i : Nat) (hi : i ≤ plainN s) : Lib.NoAny s [67, 84, 70, 75] i := by
  intro j b hj hb
  rw [letters_has]
  have h1 : (s.take (plainN s))[j]? = some b := by rw [List.getElem?_take_of_lt (by omega), hb]
  have := List.all_eq_true.1 (plain_all s) b (List.mem_of_getElem? h1)
  simpa using this

theorem plain_index (s : List UInt8) : Lib.indexAny s [67, 84, 70, 75] = if plainN s < s.length then (plainN s : Int) else -1 := by
  split
  · rename_i h
    refine Lib.indexAny_hit (plain_no s _ (Nat.le_refl _)) (List.getElem?_eq_getElem h) ?_
    rw [letters_has]; exact plain_next s h
  · rename_i h
    exact Lib.indexAny_none (plain_no s _ (by have := plain_le s; omega))

theorem scan_plain (s : List UInt8) (r : Rd) : scanB s r = (litV (s.take (plainN s)) r).bind (scanB (s.drop (plainN s))) := by
  rw [← scanB_lit _ (plain_all s), ← scanB_app, List.take_append_drop]

/-- How long a text is. -/
def strLen : Value → Nat
  | .string s => s.size
  | _ => 0

theorem turn_step {X Y L Y' : List UInt8} {ps : List Stp} {v : Value} {m : Nat} (hs : ∀ r, scanB X r = (runsP ps r).bind (scanB Y)) (hp : ∀ r, scanB Y r = (litV (Y.take m) r).bind (scanB (Y.drop m))) (hL : L = Y.take m) (hY : Y' = Y.drop m) (r : Rd) :
    scanB X r = (runsP (ps ++ [(v, litV L)]) r).bind (scanB Y') := by
  subst hL hY
  rw [hs r, runsP_app]
  cases runsP ps r with
  | none => rfl
  | some r1 =>
    show scanB Y r1 = ((runsP [(v, litV (Y.take m))] r1)).bind (scanB (Y.drop m))
    rw [hp r1]
    simp only [runsP]
    cases litV (Y.take m) r1 <;> rfl

theorem turn_let {X Y Y' : List UInt8} {ps : List Stp} {v : Value} {g : Rd → Option Rd} (hs : ∀ r, scanB X r = (runsP ps r).bind (scanB Y)) (hp : ∀ r, scanB Y r = (g r).bind (scanB (Y.drop 1))) (hY : Y' = Y.drop 1) (r : Rd) :
    scanB X r = (runsP (ps ++ [(v, g)]) r).bind (scanB Y') := by
  subst hY
  rw [hs r, runsP_app]
  cases runsP ps r with
  | none => rfl
  | some r1 =>
    show scanB Y r1 = ((runsP [(v, g)] r1)).bind (scanB (Y.drop 1))
    rw [hp r1]
    simp only [runsP]
    cases g r1 <;> rfl

/-- A text of bytes below 128. -/
def Asc (s : List UInt8) : Prop := ∀ (j : Nat) (b : UInt8), s[j]? = some b → b.toNat < 128
theorem Asc.drop {s : List UInt8} (h : Asc s) (n : Nat) : Asc (s.drop n) := fun j b hb => h (n + j) b (by rwa [List.getElem?_drop] at hb)

/-- Texts alone. -/
def Txts (fp : Fp) : Prop := ∀ x ∈ fp, ∃ X : ByteArray, x.2 = .cells #[.string X] 9 (0, 0)
theorem Txts.kin {fp : Fp} (h : Txts fp) {e : TypeId} (he : e ≠ 9) : Kin e fp := fun x hx => by
  obtain ⟨X, hX⟩ := h x hx
  exact ⟨_, _, _, hX, Ne.symm he⟩
theorem Txts.app {fp fq : Fp} (h : Txts fp) (k : Txts fq) : Txts (fp ++ fq) := fun x hx => by
  rcases List.mem_append.1 hx with hx | hx
  · exact h x hx
  · exact k x hx
theorem txts_at (b : Nat) (X : ByteArray) : Txts (txtAt b X) := fun x hx => by
  simp only [txtAt, List.mem_singleton] at hx
  subst hx
  exact ⟨X, rfl⟩

/-- What holds of the steps made so far. -/
def TurnAt (w W : World) (v : Value) (ps : List Stp) (fp : Fp) : Prop := HeadAt W w.heap.size v ∧ W.ownsRow (w.heap.size + 1) 70 1 v ps.length (ps.map fun q => q.1) ∧ (∀ q ∈ ps, Does fp q.1 q.2) ∧ Held fp W ∧ Txts fp ∧ w.grownBy W none

theorem TurnAt.keep {w W W' : World} {v : Value} {ps : List Stp} {fp : Fp} (h : TurnAt w W v ps fp) (K : W.grownBy W' none) : TurnAt w W' v ps fp :=
  ⟨h.1.grown K (by simp), owns_keptNone h.2.1 K, h.2.2.1, h.2.2.2.1.none K, h.2.2.2.2.1, grown_trans h.2.2.2.2.2 K⟩

theorem TurnAt.next {w w1 w2 w3 : World} {fp fq : Fp} {v fv y3 : Value} {ps : List Stp} {g : Rd → Option Rd} (h : TurnAt w w1 v ps fp) (Dn : Does fq fv g) (Hn : Held fq w2) (Tn : Txts fq) (K2 : w1.grownBy w2 none)
    (K3 : (w2.alloc (.cells #[fv] 70)).grownBy w3 v.ownBlock) (O3 : w3.ownsRow (w.heap.size + 1) 70 1 y3 (ps.length + 1) ((ps.map fun q => q.1) ++ [fv])) :
    TurnAt w (w3.setCell ⟨w.heap.size, 0, none⟩ y3) y3 (ps ++ [(fv, g)]) (fp ++ fq) := by
  have h2 := h.keep K2
  have hA := World.grownBy_alloc w2 (.cells #[fv] 70) none
  have h2a := h2.keep hA
  have Hn2 := Hn.none hA
  have H3 : HeadAt w3 w.heap.size v := h2a.1.grown K3 (by intro e; have := (h2a.2.1.lt _ e).1; omega)
  have T := h.2.2.2.2.1.app Tn
  have Hh3 : Held (fp ++ fq) w3 := (h2a.2.2.2.1.app Hn2).own h2a.2.1 (T.kin (by decide)) K3
  have G3 : w.grownBy w3 none := grown_trans_new h2a.2.2.2.2.2 K3 (fun z hz => by have := (h2a.2.1.lt _ hz).1; omega)
  have KS := grown_set w3 w.heap.size 0 y3
  refine ⟨H3.set _, ?_, ?_, Hh3.grown KS (fun x hx e => ?_), T, grown_trans_new G3 KS (fun z hz => by obtain rfl := Option.some.inj hz; exact Nat.le_refl _)⟩
  · have := ownsRow_setCell_below O3 (a := ⟨w.heap.size, 0, none⟩) (by show w.heap.size < w.heap.size + 1; omega) y3
    simpa using this
  · intro q hq
    rcases List.mem_append.1 hq with hq | hq
    · exact (h.2.2.1 q hq).more (fun x hx => List.mem_append_left _ hx)
    · simp only [List.mem_singleton] at hq
      subst hq
      exact Dn.more (fun x hx => List.mem_append_right _ hx)
  · exact (T.kin (e := 82) (by decide)).apart Hh3 H3 hx (Option.some.inj e).symm

def headFp (h : Nat) (v : Value) : Nat × Obj := (h, .cells #[v] 82 (0, 0))
def rowFp (g : Nat) (cur : Array Value) : Nat × Obj := (g, .cells cur 70 (0, 0))

theorem turn_does {w W : World} {X : List UInt8} {v : Value} {ps : List Stp} {fp : Fp} (h : TurnAt w W v ps fp) (HE : ∀ r, scanB X r = runsP ps r) (hl : ps.length ≤ 1000) :
    ∃ fq, Does fq (.func (.func 51) #[] #[.pointer (some ⟨w.heap.size, 0, none⟩)]) (rowB X) ∧ Held fq W ∧ Kin 73 fq ∧ Kin 75 fq := by
  obtain ⟨hH, hO, hD, hHe, hT, -⟩ := h
  have key : ∀ (W' : World) (p : Nat) (S : ByteArray) (c t f k : Nat), W'.cell? ⟨w.heap.size, 0, none⟩ = some v → W'.ownsRow 0 70 1 v ps.length (ps.map fun q => q.1) → Held fp W' → (∀ x ∈ fp, x.1 ≠ p) → (∀ g, v.ownBlock = some g → g ≠ p) → RdAt W' p S c t f k → S.size ≤ 1048576 →
      Calls Tryd.prog 51 #[.pointer (some ⟨p, 0, none⟩), .pointer (some ⟨w.heap.size, 0, none⟩)] W' fun e W'' => StepPost W' W'' e p (rowB X (sl S, c, t, f, k)) := by
    intro W' p S c t f k hc hO' hF hp hg R hS
    obtain ⟨ao, cap, rfl, hC, -, -, -, -, -⟩ := CV.ofRow hO'
    have := turn1_any fp W' p w.heap.size ao cap ps S c t f k hc hC hD hF hp (fun ad e => by subst e; exact hg ad.block rfl) R hS (by omega)
    rw [rowB, HE]
    exact this
  rcases hO.2 with ⟨rfl, hn⟩ | ⟨g, cap, cur, rfl, hg, hcur, r⟩
  · refine ⟨headFp w.heap.size (.slice none 0 0) :: fp, ⟨51, _, rfl, enters_of Tryd.func51 (by kernel_rfl) rfl, ?_⟩, ?_, ?_, ?_⟩
    · intro W' p S c t f k H hp R hS
      refine key W' p S c t f k ?_ ⟨hO.1, .inl ⟨rfl, hn⟩⟩ (fun x hx => H x (List.mem_cons_of_mem _ hx)) (fun x hx => hp x (List.mem_cons_of_mem _ hx)) (fun g e => by cases e) R hS
      have := H _ (List.mem_cons_self ..)
      simp only [headFp] at this
      simp [World.cell?, this]
    · intro x hx
      rcases List.mem_cons.1 hx with rfl | hx
      · exact hH
      · exact hHe x hx
    · intro x hx
      rcases List.mem_cons.1 hx with rfl | hx
      · exact ⟨_, _, _, rfl, by decide⟩
      · exact hT.kin (by decide) x hx
    · intro x hx
      rcases List.mem_cons.1 hx with rfl | hx
      · exact ⟨_, _, _, rfl, by decide⟩
      · exact hT.kin (by decide) x hx
  · refine ⟨headFp w.heap.size (.slice (some ⟨g, 0, none⟩) ps.length cap) :: rowFp g cur :: fp, ⟨51, _, rfl, enters_of Tryd.func51 (by kernel_rfl) rfl, ?_⟩, ?_, ?_, ?_⟩
    · intro W' p S c t f k H hp R hS
      have h2 := H (rowFp g cur) (List.mem_cons_of_mem _ (List.mem_cons_self ..))
      have hgp := hp (rowFp g cur) (List.mem_cons_of_mem _ (List.mem_cons_self ..))
      refine key W' p S c t f k ?_ ⟨hO.1, .inr ⟨g, cap, cur, rfl, Nat.zero_le _, h2, r⟩⟩ (fun x hx => H x (List.mem_cons_of_mem _ (List.mem_cons_of_mem _ hx))) (fun x hx => hp x (List.mem_cons_of_mem _ (List.mem_cons_of_mem _ hx))) (fun g' e => by obtain rfl := Option.some.inj e; exact hgp) R hS
      have := H _ (List.mem_cons_self ..)
      simp only [headFp] at this
      simp [World.cell?, this]
    · intro x hx
      rcases List.mem_cons.1 hx with rfl | hx
      · exact hH
      · rcases List.mem_cons.1 hx with rfl | hx
        · exact hcur
        · exact hHe x hx
    · intro x hx
      rcases List.mem_cons.1 hx with rfl | hx
      · exact ⟨_, _, _, rfl, by decide⟩
      · rcases List.mem_cons.1 hx with rfl | hx
        · exact ⟨_, _, _, rfl, by decide⟩
        · exact hT.kin (by decide) x hx
    · intro x hx
      rcases List.mem_cons.1 hx with rfl | hx
      · exact ⟨_, _, _, rfl, by decide⟩
      · rcases List.mem_cons.1 hx with rfl | hx
        · exact ⟨_, _, _, rfl, by decide⟩
        · exact hT.kin (by decide) x hx

end Go.Proofs.YtcapmbeabfhjoaaDoor
