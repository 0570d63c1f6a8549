/-
  Package mean as landed: the reader's questions.
-/
import Derived.Test.YtnojpepjloceoaaGreatMnC
import Derived.Test.YtnojpepjloceoaaGreatTyF
namespace Go.Proofs.YtnojpepjloceoaaGreat
open Go.RowKit
set_option maxRecDepth 100000

/-- What the reader asks. -/
abbrev tellA (s : Sg) (a : Option Addr) (ca : Nat) : Value := .iface 86 (.agg (viewC s a ca))
/-- The reader in its block: whom it asks, and what is left. -/
def RD (w : World) (g : Nat) (s : Sg) (a : Option Addr) (ca : Nat) (v : Value) : Prop := VAt w g 109 #[tellA s a ca, v]
section
variable {w w' : World} {g : Nat} {s : Sg} {a : Option Addr} {ca : Nat} {v : Value}
theorem RD.kept (h : RD w g s a ca v) (K : w.grownBy w' none) : RD w' g s a ca v := VAt.kept h K
theorem RD.tell (h : RD w g s a ca v) : w.cell? ⟨g, 0, none⟩ = some (tellA s a ca) := VAt.cell h 0
theorem RD.left (h : RD w g s a ca v) : w.cell? ⟨g, 1, none⟩ = some v := VAt.cell h 1
end

set_option maxHeartbeats 1000000 in
theorem carrier_any (s : Sg) (a : Option Addr) (ca : Nat) (g : Nat) (v : Value) (k : Int) (w : World) (R : RD w g s a ca v) : Calls Tryz.prog 144 #[.pointer (some ⟨g, 0, none⟩), .int .i64 k] w fun e w' => e = .returned (.tuple #[.int .i64 ((carrierM s.v k).1 : Int), .bool (carrierM s.v k).2]) ∧ w.grownBy w' none := by
  have CB := fun k W => vbase_any s a ca k W
  have c0 := R.tell
  by_cases hk : k = 0
  · subst hk
    cases hb : (baseM s.v 4).2 with
    | true =>
      have e2 : carrierM s.v 0 = ((baseM s.v 4).1, true) := by rw [carrierM, if_neg (by simp), if_pos hb, ← hb]
      rw [e2]
      clear e2 R
      go_enter Tryz.func144, Tryz.ntmps144
      go_wp2_with fail
      refine (CB _ _).mono ?_
      rintro e w1 ⟨rfl, K1⟩
      rw [hb]
      go_wp2
      go_ret2
      exact ⟨rfl, K1⟩
    | false =>
      have e2 : carrierM s.v 0 = baseM s.v 5 := by rw [carrierM, if_neg (by simp), if_neg (by rw [hb]; simp)]
      rw [e2]
      clear e2
      go_enter Tryz.func144, Tryz.ntmps144
      go_wp2_with fail
      refine (CB _ _).mono ?_
      rintro e w1 ⟨rfl, K1⟩
      rw [hb]
      have c1 := (R.kept K1).tell
      clear c0 R
      go_wp2_with fail
      refine (CB _ _).mono ?_
      rintro e w2 ⟨rfl, K2⟩
      go_wp2
      go_ret2
      exact ⟨rfl, grown_trans K1 K2⟩
  · have e1 : (k != 0) = true := by rw [bne_iff_ne]; exact hk
    have e2 : carrierM s.v k = baseM s.v k := by rw [carrierM, if_pos hk]
    rw [e2]
    clear hk e2 R
    go_enter Tryz.func144, Tryz.ntmps144
    go_wp2_with fail
    refine (CB _ _).mono ?_
    rintro e w1 ⟨rfl, K1⟩
    go_wp2
    go_ret2
    exact ⟨rfl, K1⟩

/-- A pointer to the reader in a block of its own. -/
def PB (w : World) (P g : Nat) : Prop := VAt w P 130 #[.pointer (some ⟨g, 0, none⟩)]
theorem PB.kept {w w' : World} {P g : Nat} (h : PB w P g) (K : w.grownBy w' none) : PB w' P g := VAt.kept h K
theorem PB.ptr {w : World} {P g : Nat} (h : PB w P g) : w.cell? ⟨P, 0, none⟩ = some (.pointer (some ⟨g, 0, none⟩)) := VAt.cell h 0

set_option maxHeartbeats 2000000 in
theorem port1_any (s : Sg) (a : Option Addr) (ca : Nat) (g P N : Nat) (v : Value) (x : Ng) (p : Nat) (w : World) (R : RD w g s a ca v) (A : PB w P g) (B : NB w N x) (hc : Cells w a s.b) (hb : s.b.length ≤ 65535) (hp : p ≤ 131071) :
    Calls Tryz.prog 145 #[.int .i64 (p : Int), .pointer (some ⟨P, 0, none⟩), .pointer (some ⟨N, 0, none⟩)] w fun e w' => e = .returned (.int .i64 (portM s x p)) ∧ w.grownBy w' none := by
  have CN := vnumber_any s a ca p 2 (by omega) hb w hc
  have c0 := R.tell
  have c1 := A.ptr
  have q : IntKind.u64.wrap (p : Int) = (p : Int) := by rw [IntKind.wrap_u64]; omega
  cases hn : numM s.b p 2 with
  | none =>
    rw [hn] at CN
    have e0 : portM s x p = 2 := by unfold portM; rw [hn]
    rw [e0]
    clear e0 hn R A B hc hb hp
    go_enter Tryz.func145, Tryz.ntmps145
    go_wp2_with fail
    refine CN.mono ?_
    rintro e w1 ⟨rfl, K1⟩
    simp only [numR]
    go_wp2
    go_ret
    exact ⟨rfl, K1⟩
  | some k =>
    rw [hn] at CN
    have e0 : portM s x p = jdg (decide (x.n ≤ k ∧ k ≤ x.m)) := by unfold portM; rw [hn]
    rw [e0]
    have HB : Hid (NB w N x) := B
    by_cases h1 : x.n ≤ k
    · have e1 : decide (x.n ≤ k ∧ k ≤ x.m) = decide (k ≤ x.m) := by simp [h1]
      rw [e1]
      clear e0 e1 hn R A B hc hb hp
      go_enter Tryz.func145, Tryz.ntmps145
      go_wp2_with fail
      refine CN.mono ?_
      rintro e w1 ⟨rfl, K1⟩
      simp only [numR]
      have c2 := (HB.out.kept K1).n
      have c3 := (HB.out.kept K1).m
      clear c0 c1 CN HB
      go_wp2_with fail
      refine (judged_any _ _).mono ?_
      rintro e w2 ⟨rfl, rfl⟩
      go_wp2
      go_ret
      exact ⟨rfl, K1⟩
    · have e1 : decide (x.n ≤ k ∧ k ≤ x.m) = false := by simp [h1]
      rw [e1]
      have h2 : decide (x.n ≤ k) = false := by simp [h1]
      clear e0 e1 hn R A B hc hb hp h1
      go_enter Tryz.func145, Tryz.ntmps145
      go_wp2_with fail
      refine CN.mono ?_
      rintro e w1 ⟨rfl, K1⟩
      simp only [numR]
      have c2 := (HB.out.kept K1).n
      have c3 := (HB.out.kept K1).m
      clear c0 c1 CN HB
      go_wp2_with fail
      refine (judged_any _ _).mono ?_
      rintro e w2 ⟨rfl, rfl⟩
      go_wp2
      go_ret
      exact ⟨rfl, K1⟩

/-- What lies there while ports are asked for. -/
structure PQ (w : World) (P N g : Nat) (s : Sg) (a : Option Addr) (ca : Nat) (v : Value) (x : Ng) : Prop where
  rd : RD w g s a ca v
  ptr : PB w P g
  node : NB w N x
  fr : Cells w a s.b
theorem PQ.kept {w w' : World} {P N g : Nat} {s : Sg} {a : Option Addr} {ca : Nat} {v : Value} {x : Ng} (h : PQ w P N g s a ca v x) (K : w.grownBy w' none) : PQ w' P N g s a ca v x :=
  ⟨h.rd.kept K, h.ptr.kept K, h.node.kept K, h.fr.keptNone K⟩
theorem box_ptr (g : Nat) (W : World) : (Instr.box 130 (.pointer (some ⟨g, 0, none⟩))).run Tryz.prog W = .ok (.pointer (some ⟨W.heap.size, 0, none⟩)) (W.alloc (.cells #[.pointer (some ⟨g, 0, none⟩)] 130)) := by kernel_rfl

set_option maxHeartbeats 2000000 in
theorem ports_any (s : Sg) (a : Option Addr) (ca : Nat) (g : Nat) (v : Value) (x : Ng) (w : World) (R : RD w g s a ca v) (hc : Cells w a s.b) (hb : s.b.length ≤ 65535) (hp : (carrierM s.v x.of).1 ≤ 65535) :
    Calls Tryz.prog 139 #[.pointer (some ⟨g, 0, none⟩), .agg x.cells.toArray] w fun e w' => e = .returned (.int .i64 (portsM s x)) ∧ w.grownBy w' none := by
  have HBX := box_ng x
  have HBP := box_ptr g
  have K0 := World.grownBy_alloc w (.cells #[.pointer (some ⟨g, 0, none⟩)] 130) none
  have K1 := World.grownBy_alloc (w.alloc (.cells #[.pointer (some ⟨g, 0, none⟩)] 130)) (.cells x.cells.toArray 37) none
  have A1 : PB (w.alloc (.cells #[.pointer (some ⟨g, 0, none⟩)] 130)) w.heap.size g := VAt.alloc _ _ _
  have B1 := NB.alloc (w.alloc (.cells #[.pointer (some ⟨g, 0, none⟩)] 130)) x
  rw [show (w.alloc (.cells #[.pointer (some ⟨g, 0, none⟩)] 130)).heap.size = w.heap.size + 1 by simp] at B1
  have Q0 : PQ ((w.alloc (.cells #[.pointer (some ⟨g, 0, none⟩)] 130)).alloc (.cells x.cells.toArray 37)) w.heap.size (w.heap.size + 1) g s a ca v x := ⟨(R.kept K0).kept K1, A1.kept K1, B1, (hc.keptNone K0).keptNone K1⟩
  have G0 := grown_trans K0 K1
  clear K0 K1 A1 B1 R hc
  have CC : ∀ (W : World) (Q : PQ W w.heap.size (w.heap.size + 1) g s a ca v x), Calls Tryz.prog 144 #[.pointer (some ⟨g, 0, none⟩), .int .i64 x.of] W fun e w' => e = .returned (.tuple #[.int .i64 ((carrierM s.v x.of).1 : Int), .bool (carrierM s.v x.of).2]) ∧ W.grownBy w' none := fun W Q => carrier_any s a ca g v x.of W Q.rd
  have CP : ∀ (W : World) (p : Nat) (hp : p ≤ 131071) (Q : PQ W w.heap.size (w.heap.size + 1) g s a ca v x), Calls Tryz.prog 145 #[.int .i64 (p : Int), .pointer (some ⟨w.heap.size, 0, none⟩), .pointer (some ⟨w.heap.size + 1, 0, none⟩)] W fun e w' => e = .returned (.int .i64 (portM s x p)) ∧ W.grownBy w' none := fun W p hp Q => port1_any s a ca g w.heap.size (w.heap.size + 1) v x p W Q.rd Q.ptr Q.node Q.fr hb hp
  have HE : Hid (portsM s x = if (carrierM s.v x.of).2 = false then 0 else sidedM x.side (portM s x (carrierM s.v x.of).1) (portM s x ((carrierM s.v x.of).1 + 2))) := rfl
  obtain ⟨E, hE⟩ : ∃ E, portsM s x = E := ⟨_, rfl⟩
  rw [hE] at HE ⊢
  clear hE
  obtain ⟨X, hX⟩ : ∃ X, x.cells.toArray = X := ⟨_, rfl⟩
  rw [hX] at HBX G0 Q0 ⊢
  go_enter Tryz.func139, Tryz.ntmps139
  go_upto_region 1 with fail
  generalize (w.alloc (.cells #[.pointer (some ⟨g, 0, none⟩)] 130)).alloc (.cells X 37) = w1 at *
  generalize w.heap.size + 1 = N at *
  generalize w.heap.size = P at *
  clear HBX HBP
  have c0 := Q0.ptr.ptr
  have c1 := Q0.node.of
  obtain ⟨cp, hcp⟩ : ∃ cp, (carrierM s.v x.of).1 = cp := ⟨_, rfl⟩
  obtain ⟨cb, hcb⟩ : ∃ cb, (carrierM s.v x.of).2 = cb := ⟨_, rfl⟩
  rw [hcp, hcb] at HE CC
  rw [hcp] at hp
  clear hcp hcb
  go_wp2_with fail
  refine (CC _ Q0).mono ?_
  rintro e w2 ⟨rfl, K2⟩
  have Q2 := Q0.kept K2
  have G2 := grown_trans G0 K2
  clear c0 c1 Q0 G0 K2 CC
  cases cb with
  | false =>
    have HF : Hid (E = 0) := HE.out
    clear HE
    go_wp2
    go_ret
    exact ⟨ret_int HF.out.symm, G2⟩
  | true =>
    have HF : Hid (E = sidedM x.side (portM s x cp) (portM s x (cp + 2))) := HE.out
    have q : IntKind.i64.wrap ((cp : Int) + 2) = ((cp + 2 : Nat) : Int) := by rw [IntKind.wrap_i64]; omega
    have HP : Hid (cp ≤ 65535) := hp
    clear HE hp
    go_upto_region 5 with fail
    have HQ : Hid (PQ w2 P N g s a ca v x) := Q2
    have HG2 : Hid (w.grownBy w2 none) := G2
    clear Q2 G2
    refine wp_region_held_drew (S := fun W => PQ W P N g s a ca v x ∧ w2.grownBy W none) (by kernel_rfl) (⟨HQ.out.kept (grown_drewN w2 1 none), grown_drewN w2 1 none⟩) (fun hHeld => ?_)
    refine wpAnyH_take (i := 0) (v := .pointer (some ⟨N, 6, none⟩)) rfl (by kernel_rfl) (by kernel_rfl) (by kernel_rfl) (fun _ _ _ h => h) (Or.inl ⟨by rfl, fun W hW => ?_⟩) hHeld ?_
    · clear hW
      go_simp
    try simp only [Act.put, List.getElem_toArray, List.getElem_cons_zero, List.setIfInBounds_toArray, List.set_cons_zero, List.set_cons_succ]
    refine wpAnyH_take (i := 1) (v := .int .i64 x.side) rfl (by kernel_rfl) (by kernel_rfl) (by kernel_rfl) (fun _ _ _ h => h) (Or.inl ⟨by rfl, fun W hW => ?_⟩) hHeld ?_
    · have c6 := hW.1.node.side
      clear hW
      go_simp
    try simp only [Act.put, List.getElem_toArray, List.getElem_cons_zero, List.getElem_cons_succ, List.setIfInBounds_toArray, List.set_cons_zero, List.set_cons_succ]
    refine wpAnyH_take (i := 2) (v := .func (.func 145) #[] #[.pointer (some ⟨P, 0, none⟩), .pointer (some ⟨N, 0, none⟩)]) rfl (by kernel_rfl) (by kernel_rfl) (by kernel_rfl) (fun _ _ _ h => h) (Or.inl ⟨by rfl, fun W hW => ?_⟩) hHeld ?_
    · clear hW
      go_simp
    try simp only [Act.put, List.getElem_toArray, List.getElem_cons_zero, List.getElem_cons_succ, List.setIfInBounds_toArray, List.set_cons_zero, List.set_cons_succ]
    refine wpAnyH_take (i := 3) (v := .int .i64 (cp : Int)) rfl (by kernel_rfl) (by kernel_rfl) (by kernel_rfl) (fun _ _ _ h => h) (Or.inl ⟨by rfl, fun W hW => ?_⟩) hHeld ?_
    · clear hW
      go_simp
    try simp only [Act.put, List.getElem_toArray, List.getElem_cons_zero, List.getElem_cons_succ, List.setIfInBounds_toArray, List.set_cons_zero, List.set_cons_succ]
    refine wpAnyH_take (i := 5) (v := .func (.func 145) #[] #[.pointer (some ⟨P, 0, none⟩), .pointer (some ⟨N, 0, none⟩)]) rfl (by kernel_rfl) (by kernel_rfl) (by kernel_rfl) (fun _ _ _ h => h) (Or.inl ⟨by rfl, fun W hW => ?_⟩) hHeld ?_
    · clear hW
      go_simp
    try simp only [Act.put, List.getElem_toArray, List.getElem_cons_zero, List.getElem_cons_succ, List.setIfInBounds_toArray, List.set_cons_zero, List.set_cons_succ]
    refine wpAnyH_take (i := 6) (v := .int .i64 (cp : Int)) rfl (by kernel_rfl) (by kernel_rfl) (by kernel_rfl) (fun _ _ _ h => h) (Or.inl ⟨by rfl, fun W hW => ?_⟩) hHeld ?_
    · clear hW
      go_simp
    try simp only [Act.put, List.getElem_toArray, List.getElem_cons_zero, List.getElem_cons_succ, List.setIfInBounds_toArray, List.set_cons_zero, List.set_cons_succ]
    refine wpAnyH_take (i := 7) (v := .int .i64 ((cp + 2 : Nat) : Int)) rfl (by kernel_rfl) (by kernel_rfl) (by kernel_rfl) (fun _ _ _ h => h) (Or.inl ⟨by rfl, fun W hW => ?_⟩) hHeld ?_
    · clear hW
      go_simp
    try simp only [Act.put, List.getElem_toArray, List.getElem_cons_zero, List.getElem_cons_succ, List.setIfInBounds_toArray, List.set_cons_zero, List.set_cons_succ]
    refine wpAnyH_ready (rs := [4]) (by kernel_rfl) (by simp) (AllReadyH.cons rfl (fun K hK => ?_) AllReadyH.nil)
    go_simp
    refine (CP _ cp (by have := HP.out; omega) hHeld.1).mono ?_
    rintro e w3 ⟨rfl, K3⟩
    go_wp2_with fail
    refine hK.out _ _ (⟨hHeld.1.kept K3, grown_trans hHeld.2 K3⟩) (fun hHeld => ?_)
    clear hK K
    try simp only [Act.put, List.getElem_toArray, List.getElem_cons_zero, List.getElem_cons_succ, List.setIfInBounds_toArray, List.set_cons_zero, List.set_cons_succ]
    refine wpAnyH_ready (rs := [8]) (by kernel_rfl) (by simp) (AllReadyH.cons rfl (fun K hK => ?_) AllReadyH.nil)
    go_simp
    refine (CP _ (cp + 2) (by have := HP.out; omega) hHeld.1).mono ?_
    rintro e w4 ⟨rfl, K4⟩
    go_wp2_with fail
    refine hK.out _ _ (⟨hHeld.1.kept K4, grown_trans hHeld.2 K4⟩) (fun hHeld => ?_)
    clear hK K
    try simp only [Act.put, List.getElem_toArray, List.getElem_cons_zero, List.getElem_cons_succ, List.setIfInBounds_toArray, List.set_cons_zero, List.set_cons_succ]
    refine wpAnyH_ready (rs := [9]) (by kernel_rfl) (by simp) (AllReadyH.cons rfl (fun K hK => ?_) AllReadyH.nil)
    go_simp
    refine (sided_any _ _ _ _).mono ?_
    rintro e w5 ⟨rfl, K5⟩
    go_wp2_with fail
    refine hK.out _ _ (K5 ▸ hHeld) (fun hHeld => ?_)
    clear hK K
    try simp only [Act.put, List.getElem_toArray, List.getElem_cons_zero, List.getElem_cons_succ, List.setIfInBounds_toArray, List.set_cons_zero, List.set_cons_succ]
    refine wpAnyH_take (i := 10) (v := .int .i64 (sidedM x.side (portM s x cp) (portM s x (cp + 2)))) rfl (by kernel_rfl) (by kernel_rfl) (by kernel_rfl) (fun _ _ _ h => h) (Or.inl ⟨by rfl, fun W hW => ?_⟩) hHeld ?_
    · clear hW
      go_simp
    try simp only [Act.put, List.getElem_toArray, List.getElem_cons_zero, List.getElem_cons_succ, List.setIfInBounds_toArray, List.set_cons_zero, List.set_cons_succ]
    refine wpAnyH_done (by kernel_rfl) ?_ _

    have G := grown_trans HG2.out hHeld.2
    clear hHeld
    go_wp2
    go_ret
    exact ⟨ret_int HF.out.symm, G⟩

end Go.Proofs.YtnojpepjloceoaaGreat
