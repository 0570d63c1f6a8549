/-
  Nodes in memory: SameNodes of two like lists. Two sources with the same beginning, of which one ends there: they are read alike up to there. No Go text here.
-/
import Derived.Test.YtbdmpjnlgdahmaaGreatDoorLotP8
import Derived.Test.YtbdmpjnlgdahmaaGreatDoorLotP21
import Derived.BigQuiet
import Derived.Deep.RegionHeld
import Derived.Test.YtbdmpjnlgdahmaaGreatDoorLotP9
namespace Go.Proofs.YtbdmpjnlgdahmaaGreatDoor
open Go.RowKit
set_option maxRecDepth 100000

set_option maxRecDepth 100000 in
set_option maxHeartbeats 2000000 in
theorem nsame_any (a b : Option Addr) (ca cb : Nat) (xs : List Nd) (w : World) (ha : CV w a (flatN xs)) (hb : CV w b (flatN xs)) (hm : xs.length ≤ 9223372036854775807) :
    Calls Tryz.prog 11 #[.slice a xs.length ca, .slice b xs.length cb] w fun e w' => e = .returned (.bool true) ∧ ∃ n, w' = w.drewN n := by
  have hne : ((xs.length : Int) != (xs.length : Int)) = false := by simp
  go_enter Tryz.func11, Tryz.ntmps11
  go_wp2
  go_loopw [5] (fun i wr => ∃ k : Nat, k ≤ xs.length ∧ i = .int .i64 k ∧ ∃ n, wr = w.drewN n) (fun i _ => xs.length - (intOf i).toNat)
  case atStart => exact ⟨0, Nat.zero_le _, rfl, 0, rfl⟩
  case round =>
    obtain ⟨k, hk, rfl, n, rfl⟩ := hrel
    by_cases hlt : k < xs.length
    · obtain ⟨b1, o1, rfl, -⟩ := ha.nodes hlt
      obtain ⟨b2, o2, rfl, -⟩ := hb.nodes hlt
      have HA : Hid (∀ W, (∃ n, W = w.drewN n) → W.rangeAt b1 (o1 + k * 24) xs[k].cells) := fun W ⟨n, hW⟩ => by
        obtain ⟨b, o, e, h⟩ := (ha.keptNone (hW ▸ grown_drewN w n none)).nodes hlt
        simp only [Option.some.injEq, Addr.mk.injEq] at e
        obtain ⟨rfl, rfl, -⟩ := e
        exact h k hlt
      have HB : Hid (∀ W, (∃ n, W = w.drewN n) → W.rangeAt b2 (o2 + k * 24) xs[k].cells) := fun W ⟨n, hW⟩ => by
        obtain ⟨b, o, e, h⟩ := (hb.keptNone (hW ▸ grown_drewN w n none)).nodes hlt
        simp only [Option.some.injEq, Addr.mk.injEq] at e
        obtain ⟨rfl, rfl, -⟩ := e
        exact h k hlt
      have HEQ := fun W => node_eq xs[k] W
      have HSZ : xs[k].cells.length = 24 := rfl
      have HS : Hid ((Tryz.prog.info? 46).map (·.size) = some xs[k].cells.length) := size46
      clear ha hb HSZ
      generalize xs[k].cells = cs at *
      have hl : (k : Int) < (xs.length : Int) := by omega
      have z0 : (0 : Int) ≤ (k : Int) := by omega
      go_upto_region 6 with fail
      refine wp_region_held_drew (S := fun W => ∃ n, W = w.drewN n) (by kernel_rfl) ⟨n + 1, rfl⟩ (fun hHeld => ?_)
      refine wpAnyH_take (i := 0) (v := .slice (some ⟨b1, o1, none⟩) xs.length ca) rfl (by kernel_rfl) (by kernel_rfl) (by kernel_rfl) (fun _ _ _ h => h) (Or.inl ⟨by rfl, fun W hW => ?_⟩) hHeld ?_
      · clear hW
        go_simp
      try simp only [Act.put, List.getElem_toArray, List.getElem_cons_zero, List.setIfInBounds_toArray, List.set_cons_zero, List.set_cons_succ]
      refine wpAnyH_take (i := 1) (v := .int .i64 (k : Int)) rfl (by kernel_rfl) (by kernel_rfl) (by kernel_rfl) (fun _ _ _ h => h) (Or.inl ⟨by rfl, fun W hW => ?_⟩) hHeld ?_
      · clear hW
        go_simp
      try simp only [Act.put, List.getElem_toArray, List.getElem_cons_zero, List.getElem_cons_succ, List.setIfInBounds_toArray, List.set_cons_zero, List.set_cons_succ]
      refine wpAnyH_take (i := 2) (v := .pointer (some ⟨b1, o1 + k * 24, none⟩)) rfl (by kernel_rfl) (by kernel_rfl) (by kernel_rfl) (fun _ _ _ h => h) (Or.inl ⟨by rfl, fun W hW => ?_⟩) hHeld ?_
      · clear hW
        go_simp
      try simp only [Act.put, List.getElem_toArray, List.getElem_cons_zero, List.getElem_cons_succ, List.setIfInBounds_toArray, List.set_cons_zero, List.set_cons_succ]
      refine wpAnyH_take (i := 3) (v := .agg cs.toArray) rfl (by kernel_rfl) (by kernel_rfl) (by kernel_rfl) (fun _ _ _ h => h) (yieldsIf_load_mid (by rfl) _ _ rfl _ _ rfl cs _ (fun W hW => HA.out W hW) Tryz.underlying46 rfl HS.out) hHeld ?_
      try simp only [Act.put, List.getElem_toArray, List.getElem_cons_zero, List.getElem_cons_succ, List.setIfInBounds_toArray, List.set_cons_zero, List.set_cons_succ]
      refine wpAnyH_take (i := 4) (v := .slice (some ⟨b2, o2, none⟩) xs.length cb) rfl (by kernel_rfl) (by kernel_rfl) (by kernel_rfl) (fun _ _ _ h => h) (Or.inl ⟨by rfl, fun W hW => ?_⟩) hHeld ?_
      · clear hW
        go_simp
      try simp only [Act.put, List.getElem_toArray, List.getElem_cons_zero, List.getElem_cons_succ, List.setIfInBounds_toArray, List.set_cons_zero, List.set_cons_succ]
      refine wpAnyH_take (i := 5) (v := .int .i64 (k : Int)) rfl (by kernel_rfl) (by kernel_rfl) (by kernel_rfl) (fun _ _ _ h => h) (Or.inl ⟨by rfl, fun W hW => ?_⟩) hHeld ?_
      · clear hW
        go_simp
      try simp only [Act.put, List.getElem_toArray, List.getElem_cons_zero, List.getElem_cons_succ, List.setIfInBounds_toArray, List.set_cons_zero, List.set_cons_succ]
      refine wpAnyH_take (i := 6) (v := .pointer (some ⟨b2, o2 + k * 24, none⟩)) rfl (by kernel_rfl) (by kernel_rfl) (by kernel_rfl) (fun _ _ _ h => h) (Or.inl ⟨by rfl, fun W hW => ?_⟩) hHeld ?_
      · clear hW
        go_simp
      try simp only [Act.put, List.getElem_toArray, List.getElem_cons_zero, List.getElem_cons_succ, List.setIfInBounds_toArray, List.set_cons_zero, List.set_cons_succ]
      refine wpAnyH_take (i := 7) (v := .agg cs.toArray) rfl (by kernel_rfl) (by kernel_rfl) (by kernel_rfl) (fun _ _ _ h => h) (yieldsIf_load_mid (by rfl) _ _ rfl _ _ rfl cs _ (fun W hW => HB.out W hW) Tryz.underlying46 rfl HS.out) hHeld ?_
      try simp only [Act.put, List.getElem_toArray, List.getElem_cons_zero, List.getElem_cons_succ, List.setIfInBounds_toArray, List.set_cons_zero, List.set_cons_succ]
      refine wpAnyH_take (i := 8) (v := .bool false) rfl (by kernel_rfl) (by kernel_rfl) (by kernel_rfl) (fun _ _ _ h => h) (Or.inl ⟨by rfl, fun W hW => ?_⟩) hHeld ?_
      · clear hW
        go_simp
      try simp only [Act.put, List.getElem_toArray, List.getElem_cons_zero, List.getElem_cons_succ, List.setIfInBounds_toArray, List.set_cons_zero, List.set_cons_succ]
      refine wpAnyH_done (by kernel_rfl) ?_ _
      clear HA HB HS HEQ
      go_wp2
      go_roundw
      case rel => exact ⟨k + 1, by omega, by go_num, hHeld⟩
      case measure => simp [intOf]; omega
    · go_wp2
      go_ret
      exact ⟨rfl, n, rfl⟩

end Go.Proofs.YtbdmpjnlgdahmaaGreatDoor

namespace Go.Proofs.YtbdmpjnlgdahmaaGreatDoor
open Go.RowKit
set_option maxRecDepth 100000

theorem loop_same {rec : List Tk → Out} (hr : ∀ ts ns r, rec ts = .ok (ns, r) → Fr ts r ∧ ns ≠ []) (k : Nat) : ∀ (f g : Nat) (ns : List (Nd × Nat)) (ts : List Tk), ts.length ≤ f → ts.length ≤ g → loopG rec k f ns ts = loopG rec k g ns ts
  | 0, g, ns, ts, h, _ => by
    have h0 : ts = [] := List.length_eq_zero_iff.1 (by omega)
    subst h0
    cases g with
    | zero => rfl
    | succ g => rfl
  | f + 1, 0, ns, ts, _, h => by
    have h0 : ts = [] := List.length_eq_zero_iff.1 (by omega)
    subst h0
    rfl
  | f + 1, g + 1, ns, ts, h1, h2 => by
    unfold loopG
    split
    · rfl
    · cases hx : rec ts.tail with
      | error e => rfl
      | ok v =>
        obtain ⟨ms, r⟩ := v
        show (if k = 4 then _ else _) = (if k = 4 then _ else _)
        split
        · rfl
        · have hl := (hr _ _ _ hx).1.2
          have ht : ts.tail.length ≤ ts.length := by simp
          exact loop_same hr k f g _ _ (by show r.length ≤ f; omega) (by show r.length ≤ g; omega)

/-- Read up to the end. -/
def AtEnd {α : Type} (B : List Tk) (y : Except Er (α × List Tk)) : Prop := y = .error ((hdT B).pos, 110) ∨ y = .error exP ∨ ∃ v, y = .ok (v, B)
/-- Read alike, or one up to its end and the other into what stands there. -/
def Sm {α : Type} (A B : List Tk) (x y : Except Er (α × List Tk)) : Prop := (∃ v p, x = .ok (v, p ++ A) ∧ y = .ok (v, p ++ B)) ∨ (∃ e, x = .error e ∧ y = .error e) ∨ (AtEnd B y ∧ GdP A x)

section
variable {A B : List Tk}
theorem sm_then {α β : Type} {x y : Except Er (α × List Tk)} {F : α × List Tk → Except Er (β × List Tk)} (h : Sm A B x y) (h1 : ∀ v p, x = .ok (v, p ++ A) → y = .ok (v, p ++ B) → Sm A B (F (v, p ++ A)) (F (v, p ++ B)))
    (h2 : ∀ v r, EndsOk r → GdP r (F (v, r))) (h3 : ∀ v, AtEnd B (F (v, B))) : Sm A B (thenE x F) (thenE y F) := by
  rcases h with ⟨v, p, hx, hy⟩ | ⟨e, hx, hy⟩ | ⟨hy, hx⟩
  · rw [hx, hy]
    exact h1 v p hx hy
  · rw [hx, hy]
    exact .inr (.inl ⟨e, rfl, rfl⟩)
  · refine .inr (.inr ⟨?_, gd_then hx (fun v r _ hr => h2 v r hr)⟩)
    rcases hy with hy | hy | ⟨v, hy⟩
    · rw [hy]; exact .inl rfl
    · rw [hy]; exact .inr (.inl rfl)
    · rw [hy]; exact h3 v
theorem sm_ite {α : Type} {c : Prop} [Decidable c] {x1 x2 y1 y2 : Except Er (α × List Tk)} (h1 : c → Sm A B x1 y1) (h2 : ¬ c → Sm A B x2 y2) : Sm A B (if c then x1 else x2) (if c then y1 else y2) := by
  by_cases h : c
  · rw [if_pos h, if_pos h]; exact h1 h
  · rw [if_neg h, if_neg h]; exact h2 h
theorem sm_ok {α : Type} (v : α) (p : List Tk) : Sm A B (.ok (v, p ++ A)) (.ok (v, p ++ B)) := .inl ⟨v, p, rfl, rfl⟩
theorem sm_er {α : Type} (e : Er) : Sm (α := α) A B (.error e) (.error e) := .inr (.inl ⟨e, rfl, rfl⟩)
def SmP {α : Type} (A B : List Tk) (G : List Tk → Except Er (α × List Tk)) : Prop := ∀ p, Sm A B (G (p ++ A)) (G (p ++ B))
theorem smp_of {α : Type} {G : List Tk → Except Er (α × List Tk)} (h1 : ∀ t p, Sm A B (G (t :: (p ++ A))) (G (t :: (p ++ B)))) (h2 : GdP A (G A)) (h3 : AtEnd B (G B)) : SmP A B G := by
  intro p
  cases p with
  | nil => exact .inr (.inr ⟨h3, h2⟩)
  | cons t p => exact h1 t p
theorem sm_fail {α : Type} (t : Tk) (p : List Tk) (e : Int) : Sm (α := α) A B (failV (t :: (p ++ A)) e) (failV (t :: (p ++ B)) e) := sm_er _
theorem sm_opn {α : Type} {nest : Nat} {t : Tk} {p : List Tk} {x y : Except Er (α × List Tk)} (h : Sm A B x y) : Sm A B (opnV nest (t :: (p ++ A)) x) (opnV nest (t :: (p ++ B)) y) :=
  sm_ite (fun _ => sm_er _) (fun _ => h)

/-- At an end nothing is reached. -/
theorem end_is (hB : (hdT B).kind = 0) (x : List UInt8) : isB B x = false := by
  unfold isB
  rw [hB]
  rfl
theorem end_fail {α : Type} (hB : (hdT B).kind = 0) (e : Int) : AtEnd (α := α) B (failV B e) := .inl (by unfold failV; rw [if_pos hB])
theorem end_then {α β : Type} {x : Except Er (α × List Tk)} {F : α × List Tk → Except Er (β × List Tk)} (h : AtEnd B x) (h3 : ∀ v, AtEnd B (F (v, B))) : AtEnd B (thenE x F) := by
  rcases h with h | h | ⟨v, h⟩
  · rw [h]; exact .inl rfl
  · rw [h]; exact .inr (.inl rfl)
  · rw [h]; exact h3 v
theorem end_must (hB : (hdT B).kind = 0) (x : List UInt8) : AtEnd B (mustU x B) := by
  unfold mustU mustV
  rw [if_neg (by rw [end_is hB]; simp)]
  exact end_fail hB _
theorem end_num (hB : (hdT B).kind = 0) : AtEnd B (numT B) := by
  unfold numT
  rw [if_neg (by omega)]
  exact end_fail hB _
theorem end_addr (hB : (hdT B).kind = 0) (k : Nat) : AtEnd B (addrT k B) := by
  unfold addrT
  rw [if_neg (by omega), if_neg (by omega)]
  exact end_fail hB _
theorem end_sidedB (hB : (hdT B).kind = 0) (of at' side : Nat) : AtEnd B (sidedB of at' side B) := by
  unfold sidedB
  rw [if_neg (by rw [end_is hB]; simp), if_neg (by rw [end_is hB]; simp), if_neg (by rw [end_is hB]; simp), if_neg (by rw [end_is hB]; simp)]
  exact end_fail hB _
theorem end_side (hB : (hdT B).kind = 0) : sideN B = 0 ∧ sideR B = B := by
  have h : sideN B = 0 := by
    unfold sideN
    rw [if_neg (by rw [end_is hB]; simp), if_neg (by rw [end_is hB]; simp)]
  exact ⟨h, by unfold sideR; rw [if_pos h]⟩
theorem end_size (hB : (hdT B).kind = 0) : AtEnd B (sizeF B) := by
  unfold sizeF
  simp only [must_u]
  rw [if_neg (by rw [end_is hB]; simp)]
  exact end_then (end_must hB _) (fun v => .inr (.inr ⟨_, rfl⟩))
theorem end_name (hB : (hdT B).kind = 0) (rec : Nat → List Tk → Out) (nest of at' : Nat) : AtEnd B (nameF rec nest of at' B) := by
  unfold nameF
  rw [if_neg (by rw [end_is hB]; simp)]
  split
  · exact end_fail hB _
  · rw [if_neg (by rw [end_is hB]; simp), if_neg (by rw [end_is hB, end_is hB, end_is hB, end_is hB]; simp)]
    exact .inr (.inr ⟨_, rfl⟩)
theorem end_part (hB : (hdT B).kind = 0) (rec : Nat → List Tk → Out) (nest : Nat) : AtEnd B (partF rec nest B) := by
  unfold partF
  rw [if_neg (by omega), if_neg (by rw [end_is hB]; simp), if_pos (by omega)]
  exact end_fail hB _
theorem end_loop (hB : (hdT B).kind = 0) (rec : List Tk → Out) (k f : Nat) (ns : List (Nd × Nat)) : loopG rec k f ns B = .ok (ns, B) := by
  cases f with
  | zero => rfl
  | succ f =>
    unfold loopG
    have : opT k B = none := by unfold opT; rw [if_neg (by omega)]
    rw [this]
theorem end_row (hB : (hdT B).kind = 0) : ∀ (f k nest : Nat), AtEnd B (rowF f k nest B)
  | 0, k, nest => .inr (.inl rfl)
  | f + 1, k, nest => by
    have ih := end_row hB f
    rw [row_succ]
    unfold stepR
    rw [if_neg (by rw [end_is hB, end_is hB]; simp), if_neg (by rw [end_is hB]; simp)]
    split
    · exact ih _ _
    · split
      · exact end_part hB _ _
      · exact end_then (ih _ _) (fun v => .inr (.inr ⟨_, end_loop hB _ _ _ _⟩))
end

theorem sm_must {A B : List Tk} (hA : EndsOk A) (hk : (hdT B).kind = 0) (x : List UInt8) : SmP A B (mustU x) := smp_of (fun t p => by
  show Sm A B (thenE (if isB (t :: (p ++ A)) x = true then .ok (p ++ A) else failV (t :: (p ++ A)) _) _) (thenE (if isB (t :: (p ++ A)) x = true then .ok (p ++ B) else failV (t :: (p ++ B)) _) _)
  by_cases h : isB (t :: (p ++ A)) x = true
  · rw [if_pos h, if_pos h]; exact sm_ok _ _
  · rw [if_neg h, if_neg h]; exact sm_er _) (gd_must x hA) (end_must hk x)
theorem sm_num {A B : List Tk} (hA : EndsOk A) (hk : (hdT B).kind = 0) : SmP A B numT := smp_of (fun _ _ => sm_ite (fun _ => sm_ok _ _) (fun _ => sm_fail _ _ _)) (gd_num hA) (end_num hk)
theorem sm_addr {A B : List Tk} (hA : EndsOk A) (hk : (hdT B).kind = 0) (k : Nat) : SmP A B (addrT k) := smp_of (fun t p => by
  refine sm_ite (fun _ => ?_) (fun _ => sm_ite (fun _ => ?_) (fun _ => sm_fail _ _ _))
  · show Sm A B (match parse4V t.text with | some a => _ | none => _) (match parse4V t.text with | some a => _ | none => _)
    cases parse4V t.text with
    | none => exact sm_fail _ _ _
    | some a => exact sm_ok _ _
  · show Sm A B (match parse6V t.text with | some a => _ | none => _) (match parse6V t.text with | some a => _ | none => _)
    cases parse6V t.text with
    | none => exact sm_fail _ _ _
    | some a => exact sm_ok _ _) (gd_addr k hA) (end_addr hk k)
theorem end_ok {α : Type} {B : List Tk} (v : α) : AtEnd B (.ok (v, B)) := .inr (.inr ⟨v, rfl⟩)
theorem sm_two {α : Type} {A B : List Tk} (hA : EndsOk A) (hk : (hdT B).kind = 0) (x : List UInt8) (F : Nat → α) (p : List Tk) :
    Sm A B (thenE (mustU x (p ++ A)) fun q => thenE (numT q.2) fun u => .ok (F u.1, u.2)) (thenE (mustU x (p ++ B)) fun q => thenE (numT q.2) fun u => .ok (F u.1, u.2)) :=
  sm_then (sm_must hA hk x p) (fun _ p _ _ => sm_then (sm_num hA hk p) (fun _ p _ _ => sm_ok _ p) (fun _ _ hr => gd_ok _ hr (List.suffix_refl _)) (fun _ => end_ok _))
    (fun _ _ hr => gd_then (gd_num hr) (fun _ _ _ hr => gd_ok _ hr (List.suffix_refl _))) (fun _ => end_then (end_num hk) (fun _ => end_ok _))
theorem sm_sidedB {A B : List Tk} (hA : EndsOk A) (hk : (hdT B).kind = 0) (of at' side : Nat) : SmP A B (sidedB of at' side) := smp_of (fun t p => by
  unfold sidedB
  simp only [must_u]
  refine sm_ite (fun _ => ?_) (fun _ => sm_ite (fun _ => ?_) (fun _ => sm_ite (fun _ => ?_) (fun _ => sm_ite (fun _ => ?_) (fun _ => sm_fail _ _ _))))
  · exact sm_then (sm_num hA hk p) (fun _ p _ _ => sm_ok _ p) (fun _ _ hr => gd_ok _ hr (List.suffix_refl _)) (fun _ => end_ok _)
  · refine sm_then (sm_num hA hk p) (fun v p _ _ => sm_two hA hk _ (fun m => [({ ndK 16 with of := of, side := side, n := v, m := m }, at')]) p) (fun _ _ hr => ?_) (fun _ => ?_)
    · exact gd_then (gd_must _ hr) (fun _ _ _ hr => gd_then (gd_num hr) (fun _ _ _ hr => gd_ok _ hr (List.suffix_refl _)))
    · exact end_then (end_must hk _) (fun _ => end_then (end_num hk) (fun _ => end_ok _))
  · exact sm_then (sm_addr hA hk 14 p) (fun _ p _ _ => sm_ok _ p) (fun _ _ hr => gd_ok _ hr (List.suffix_refl _)) (fun _ => end_ok _)
  · refine sm_then (sm_addr hA hk 15 p) (fun v p _ _ => sm_two hA hk _ (fun b => [({ v with bits := b, side := side }, at')]) p) (fun _ _ hr => ?_) (fun _ => ?_)
    · exact gd_then (gd_must _ hr) (fun _ _ _ hr => gd_then (gd_num hr) (fun _ _ _ hr => gd_ok _ hr (List.suffix_refl _)))
    · exact end_then (end_must hk _) (fun _ => end_then (end_num hk) (fun _ => end_ok _))) (gd_sidedB _ _ _ hA) (end_sidedB hk _ _ _)
theorem sm_sided {A B : List Tk} (hA : EndsOk A) (hk : (hdT B).kind = 0) (of at' : Nat) : SmP A B (sidedV of at') := smp_of (fun t p => by
  unfold sidedV
  have hn : sideN (t :: (p ++ B)) = sideN (t :: (p ++ A)) := rfl
  rw [hn]
  unfold sideR
  rw [hn]
  by_cases h : sideN (t :: (p ++ A)) = 0
  · rw [if_pos h, if_pos h]; exact sm_sidedB hA hk _ _ _ (t :: p)
  · rw [if_neg h, if_neg h]; exact sm_sidedB hA hk _ _ _ p) (gd_sided _ _ hA) (by unfold sidedV; rw [(end_side hk).1, (end_side hk).2]; exact end_sidedB hk _ _ _)
theorem sm_word {A B : List Tk} (hA : EndsOk A) (hk : (hdT B).kind = 0) (t : Tk) (p : List Tk) : Sm A B (wordF (t :: (p ++ A))) (wordF (t :: (p ++ B))) := by
  unfold wordF
  refine sm_ite (fun _ => sm_ok _ p) (fun _ => sm_ite (fun _ => sm_ok _ p) (fun _ => sm_ite (fun _ => sm_ok _ p) (fun _ => sm_ite (fun _ => ?_) (fun _ => sm_ite (fun _ => ?_) (fun _ => sm_fail _ _ _)))))
  · exact sm_then (sm_num hA hk p) (fun _ p _ _ => sm_ok _ p) (fun _ _ hr => gd_ok _ hr (List.suffix_refl _)) (fun _ => end_ok _)
  · exact sm_sided hA hk _ _ (t :: p)
theorem sm_size {A B : List Tk} (hA : EndsOk A) (hk : (hdT B).kind = 0) : SmP A B sizeF := smp_of (fun t p => by
  unfold sizeF
  simp only [must_u]
  refine sm_ite (fun _ => ?_) (fun _ => ?_)
  · exact sm_then (sm_num hA hk p) (fun _ p _ _ => sm_then (sm_must hA hk _ p) (fun _ p _ _ => sm_ok _ p) (fun _ _ hr => gd_ok _ hr (List.suffix_refl _)) (fun _ => end_ok _))
      (fun _ _ hr => gd_then (gd_must _ hr) (fun _ _ _ hr => gd_ok _ hr (List.suffix_refl _))) (fun _ => end_then (end_must hk _) (fun _ => end_ok _))
  · exact sm_then (sm_must hA hk _ (t :: p)) (fun _ p _ _ => sm_ok _ p) (fun _ _ hr => gd_ok _ hr (List.suffix_refl _)) (fun _ => end_ok _)) (gd_size hA) (end_size hk)
theorem sm_name {A B : List Tk} (hA : EndsOk A) (hk : (hdT B).kind = 0) {rec : Nat → List Tk → Out} (hg : GdR rec) (hr : ∀ nest, SmP A B (rec nest)) (nest of at' : Nat) : SmP A B (nameF rec nest of at') := smp_of (fun t p => by
  unfold nameF
  refine sm_ite (fun _ => sm_opn ?_) (fun _ => sm_ite (fun _ => sm_fail _ _ _) (fun _ => sm_ite (fun _ => ?_) (fun _ => sm_ite (fun _ => ?_) (fun _ => sm_ok _ (t :: p)))))
  · exact sm_then (hr _ p) (fun _ p _ _ => sm_then (sm_size hA hk p) (fun _ p _ _ => sm_ok _ p) (fun _ _ hr => gd_ok _ hr (List.suffix_refl _)) (fun _ => end_ok _))
      (fun _ _ hr => gd_then (gd_size hr) (fun _ _ _ hr => gd_ok _ hr (List.suffix_refl _))) (fun _ => end_then (end_size hk) (fun _ => end_ok _))
  · exact sm_then (sm_num hA hk p) (fun _ p _ _ => sm_ok _ p) (fun _ _ hr => gd_ok _ hr (List.suffix_refl _)) (fun _ => end_ok _)
  · exact sm_sided hA hk _ _ (t :: p)) (gd_name hg _ _ _ hA) (end_name hk _ _ _ _)
theorem sm_part {A B : List Tk} (hA : EndsOk A) (hk : (hdT B).kind = 0) {rec : Nat → List Tk → Out} (hg : GdR rec) (hr : ∀ nest, SmP A B (rec nest)) (nest : Nat) : SmP A B (partF rec nest) := smp_of (fun t p => by
  unfold partF
  simp only [must_u]
  refine sm_ite (fun _ => sm_ok _ p) (fun _ => sm_ite (fun _ => sm_opn ?_) (fun _ => sm_ite (fun _ => sm_fail _ _ _) (fun _ => sm_ite (fun _ => ?_) (fun _ => ?_))))
  · exact sm_then (hr _ p) (fun _ p _ _ => sm_then (sm_must hA hk _ p) (fun _ p _ _ => sm_ok _ p) (fun _ _ hr => gd_ok _ hr (List.suffix_refl _)) (fun _ => end_ok _))
      (fun _ _ hr => gd_then (gd_must _ hr) (fun _ _ _ hr => gd_ok _ hr (List.suffix_refl _))) (fun _ => end_then (end_must hk _) (fun _ => end_ok _))
  · exact sm_name hA hk hg hr _ _ _ p
  · exact sm_word hA hk t p) (gd_part hg _ _ hA) (end_part hk _ _)
theorem sm_loop {A B : List Tk} (hA : EndsOk A) (hk : (hdT B).kind = 0) (hne : B ≠ []) {rec : List Tk → Out} (hf : ∀ ts ns r, rec ts = .ok (ns, r) → Fr ts r ∧ ns ≠ []) (hg : ∀ ts, EndsOk ts → GdP ts (rec ts)) (hr : SmP A B rec) (k : Nat) :
    ∀ (f : Nat) (ns : List (Nd × Nat)) (p : List Tk), (p ++ A).length ≤ f → (p ++ B).length ≤ f → Sm A B (loopG rec k f ns (p ++ A)) (loopG rec k f ns (p ++ B))
  | 0, ns, p, _, h => by
    have : 0 < B.length := List.length_pos_iff.2 hne
    rw [List.length_append] at h
    omega
  | f + 1, ns, [], _, _ => .inr (.inr ⟨by rw [List.nil_append, end_loop hk]; exact end_ok _, gd_loop hg k _ _ _ hA⟩)
  | f + 1, ns, t :: p, h1, h2 => by
    unfold loopG
    have ho : opT k (t :: p ++ B) = opT k (t :: p ++ A) := rfl
    rw [ho]
    cases opT k (t :: p ++ A) with
    | none => exact sm_ok _ (t :: p)
    | some nd =>
      refine sm_then (hr p) (fun v q hx hy => ?_) (fun v r hr => ?_) (fun v => ?_)
      · refine sm_ite (fun _ => sm_ok _ q) (fun _ => ?_)
        have l1 : (q ++ A).length < (p ++ A).length := (hf _ _ _ hx).1.2
        have l2 : (q ++ B).length < (p ++ B).length := (hf _ _ _ hy).1.2
        simp only [List.cons_append, List.length_cons] at h1 h2
        exact sm_loop hA hk hne hf hg hr k f _ q (by omega) (by omega)
      · split
        · exact gd_ok _ hr (List.suffix_refl _)
        · exact gd_loop hg k _ _ _ hr
      · split
        · exact end_ok _
        · rw [end_loop hk]; exact end_ok _
/-- A source's beginning is read as the source is. -/
theorem sm_row {A B : List Tk} (hA : EndsOk A) (hk : (hdT B).kind = 0) (hne : B ≠ []) : ∀ (f k nest : Nat), SmP A B (rowF f k nest)
  | 0, k, nest => fun _ => sm_er _
  | f + 1, k, nest => smp_of (fun t p => by
    have ih := sm_row hA hk hne f
    have ig := gd_row f
    rw [row_succ, row_succ]
    unfold stepR
    refine sm_ite (fun _ => sm_opn ?_) (fun _ => sm_ite (fun _ => sm_opn ?_) (fun _ => sm_ite (fun _ => ih _ _ (t :: p)) (fun _ => sm_ite (fun _ => ?_) (fun _ => ?_))))
    · exact sm_then (ih _ _ p) (fun _ p _ _ => sm_ok _ p) (fun _ _ hr => gd_ok _ hr (List.suffix_refl _)) (fun _ => end_ok _)
    · exact sm_then (ih _ _ p) (fun _ p _ _ => sm_ok _ p) (fun _ _ hr => gd_ok _ hr (List.suffix_refl _)) (fun _ => end_ok _)
    · exact sm_part hA hk (ig 1) (fun nest => ih 1 nest) nest (t :: p)
    · refine sm_then (ih _ _ (t :: p)) (fun v q _ _ => ?_) (fun v r hr => gd_loop (fun ts h => ig (k + 1) nest ts h) k _ _ _ hr) (fun v => by rw [end_loop hk]; exact end_ok _)
      have hf := fun ts ns r h => row_fr f (k + 1) nest ts ns r h
      show Sm A B (loopG _ k (q ++ A).length v (q ++ A)) (loopG _ k (q ++ B).length v (q ++ B))
      rw [loop_same hf k (q ++ A).length ((q ++ A).length + (q ++ B).length) v (q ++ A) (by omega) (by omega), loop_same hf k (q ++ B).length ((q ++ A).length + (q ++ B).length) v (q ++ B) (by omega) (by omega)]
      exact sm_loop hA hk hne hf (fun ts h => ig (k + 1) nest ts h) (ih (k + 1) nest) k _ _ _ (by omega) (by omega)) (gd_row (f + 1) k nest A hA) (end_row hk (f + 1) k nest)

end Go.Proofs.YtbdmpjnlgdahmaaGreatDoor
