/-
  Package mean as landed: hosts and nets.
-/
import Derived.Test.YtnojpepjloceoaaGreatMnE
namespace Go.Proofs.YtnojpepjloceoaaGreat
open Go.RowKit
set_option maxRecDepth 100000

/-- What a frame that is well formed has. -/
structure MSgOk (s : Sg) : Prop where
  len : s.b.length ≤ 65535
  next : s.v.next ≤ 255
  load : s.v.load ≤ s.b.length
  pos : s.v.pos ≤ s.b.length
  four : s.v.net = 4 → s.v.pos + 20 ≤ s.b.length
  six : s.v.net = 6 → s.v.pos + 40 ≤ s.b.length
theorem base_le {s : Sg} (h : MSgOk s) (k : Int) : (baseM s.v k).1 ≤ s.b.length := by
  unfold baseM
  split
  · exact Nat.zero_le _
  · split
    · exact h.load
    · exact h.pos
theorem carrier_le {s : Sg} (h : MSgOk s) (k : Int) : (carrierM s.v k).1 ≤ s.b.length := by
  unfold carrierM
  split
  · exact base_le h _
  · split <;> exact base_le h _
theorem maddr_len {x : Ng} : (addrG x).length = longM x.of := by
  unfold addrG longM
  split <;> simp [adgs]
theorem ends_fit {s : Sg} (h : MSgOk s) {x : Ng} (ho : x.of = 2 ∨ x.of = 3) (hb : (baseM s.v x.of).2 = true) : (baseM s.v x.of).1 + srcM x.of + longM x.of ≤ s.b.length ∧ (baseM s.v x.of).1 + dstM x.of + longM x.of ≤ s.b.length := by
  rcases ho with ho | ho
  · rw [ho] at hb ⊢
    have : s.v.net = 4 := by simpa [baseM, wordM] using hb
    have := h.four this
    simp only [baseM, srcM, longM, dstM]
    simp
    omega
  · rw [ho] at hb ⊢
    have : s.v.net = 6 := by simpa [baseM, wordM] using hb
    have := h.six this
    simp only [baseM, srcM, longM, dstM]
    simp
    omega
theorem NB.adr {w : World} {N : Nat} {x : Ng} (h : NB w N x) : Cells w (some ⟨N, 7, none⟩) (addrG x) := by
  have h1 : Cells w (some ⟨N, 7, none⟩) (adgs x) := by
    refine ⟨(fun e => by cases e), fun ad had j hj => ?_⟩
    cases had
    have := h.addr j (bv (adgs x)[j]) (by rw [List.getElem?_map, List.getElem?_eq_getElem hj]; rfl)
    rw [Addr.add_lit]
    exact this
  unfold addrG
  split
  · exact h1.take 4
  · exact h1

/-- A number in a block of its own. -/
def IB (w : World) (B : Nat) (n : Int) : Prop := VAt w B 3 #[.int .i64 n]
theorem IB.kept {w w' : World} {B : Nat} {n : Int} (h : IB w B n) (K : w.grownBy w' none) : IB w' B n := VAt.kept h K
theorem IB.int {w : World} {B : Nat} {n : Int} (h : IB w B n) : w.cell? ⟨B, 0, none⟩ = some (.int .i64 n) := VAt.cell h 0
def EB (w : World) (B : Nat) (of : Int) : Prop := VAt w B 164 (endsA of)
theorem EB.kept {w w' : World} {B : Nat} {n : Int} (h : EB w B n) (K : w.grownBy w' none) : EB w' B n := VAt.kept h K

/-- What lies there while addresses are asked for: the reader, a pointer to it, the node, its base, its ends, the bits. -/
structure WQ (w : World) (P N I D M g : Nat) (s : Sg) (a : Option Addr) (ca : Nat) (v : Value) (x : Ng) (n : Nat) : Prop where
  rd : RD w g s a ca v
  ptr : PB w P g
  node : NB w N x
  base : IB w I ((baseM s.v x.of).1 : Int)
  ends : EB w D x.of
  bits : IB w M (n : Int)
  fr : Cells w a s.b
theorem WQ.kept {w w' : World} {P N I D M g : Nat} {s : Sg} {a : Option Addr} {ca : Nat} {v : Value} {x : Ng} {n : Nat} (h : WQ w P N I D M g s a ca v x n) (K : w.grownBy w' none) : WQ w' P N I D M g s a ca v x n :=
  ⟨h.rd.kept K, h.ptr.kept K, h.node.kept K, h.base.kept K, h.ends.kept K, h.bits.kept K, h.fr.keptNone K⟩

theorem slice_arr (N L : Nat) (h : L = 4 ∨ L = 16) (W : World) : (Instr.sliceAt 25 (.pointer (some ⟨N, 7, none⟩)) none (some (.int .i64 (L : Int))) none).run Tryz.prog W = .ok (.slice (some ⟨N, 7, none⟩) L 16) W := by
  rcases h with rfl | rfl
  · kernel_rfl
  · kernel_rfl
set_option maxHeartbeats 2000000 in
theorem within1_any (s : Sg) (a : Option Addr) (ca : Nat) (g P N I D M : Nat) (v : Value) (x : Ng) (n p : Nat) (w : World) (Q : WQ w P N I D M g s a ca v x n) (hk : MSgOk s) (hcap : s.b.length ≤ ca) (hp : (baseM s.v x.of).1 + p + longM x.of ≤ s.b.length) (hn : n ≤ 8 * longM x.of) :
    Calls Tryz.prog 142 #[.int .i64 (p : Int), .pointer (some ⟨P, 0, none⟩), .pointer (some ⟨I, 0, none⟩), .pointer (some ⟨N, 0, none⟩), .pointer (some ⟨D, 0, none⟩), .pointer (some ⟨M, 0, none⟩)] w fun e w' => e = .returned (.int .i64 (jdg (alikeM s.b ((baseM s.v x.of).1 + p) (addrG x) (n : Int)))) ∧ w.grownBy w' none := by
  have hL := maddr_len (x := x)
  have hl0 : 0 < longM x.of ∧ longM x.of ≤ 16 ∧ (longM x.of = 4 ∨ longM x.of = 16) := by unfold longM; split <;> omega
  have CA : ∀ W, w.grownBy W none → Calls Tryz.prog 161 #[.agg (viewC s a ca), .int .i64 (((baseM s.v x.of).1 + p : Nat) : Int), .slice (some ⟨N, 7, none⟩) (longM x.of) 16, .int .i64 (n : Int)] W fun e w' => e = .returned (.bool (alikeM s.b ((baseM s.v x.of).1 + p) (addrG x) (n : Int))) ∧ W.grownBy w' none := fun W K => by
    have h := valike_any s a ca ((baseM s.v x.of).1 + p) N 7 16 (addrG x) n hk.len hcap W (Q.fr.keptNone K) (Q.node.kept K).adr (by omega) (by omega) (by omega) (by omega)
    rw [hL] at h
    exact h
  have hk2 := hk.len
  obtain ⟨F, hF⟩ : ∃ F, alikeM s.b ((baseM s.v x.of).1 + p) (addrG x) (n : Int) = F := ⟨_, rfl⟩
  rw [hF] at CA ⊢
  obtain ⟨L, hL2⟩ : ∃ L, longM x.of = L := ⟨_, rfl⟩
  obtain ⟨bs, hbs⟩ : ∃ bs, (baseM s.v x.of).1 = bs := ⟨_, rfl⟩
  have HQ : Hid (∀ W, w.grownBy W none → WQ W P N I D M g s a ca v x n) := fun W K => Q.kept K
  have HB : Hid (∀ W, w.grownBy W none → W.cell? ⟨I, 0, none⟩ = some (.int .i64 (bs : Int))) := fun W K => by rw [(Q.base.kept K).int, hbs]
  have HE : Hid (∀ W, w.grownBy W none → W.cell? ⟨D, 2, none⟩ = some (.int .i64 (L : Int))) := fun W K => by
    rw [← hL2]
    exact VAt.cell (Q.ends.kept K) 2
  rw [hbs, hL2] at CA
  have q1 : IntKind.i64.wrap ((bs : Int) + (p : Int)) = ((bs + p : Nat) : Int) := by rw [IntKind.wrap_i64]; omega
  have HSL := fun W => slice_arr N L (by omega) W
  clear Q hk hcap hp hn hL hF hL2 hbs hl0 hk2
  go_enter Tryz.func142, Tryz.ntmps142
  go_upto_region 1 with fail
  refine wp_region_held_drew (S := fun W => w.grownBy W none) (by kernel_rfl) (grown_drewN w 1 none) (fun hHeld => ?_)
  refine wpAnyH_take (i := 0) (v := .pointer (some ⟨g, 0, none⟩)) rfl (by kernel_rfl) (by kernel_rfl) (by kernel_rfl) (fun _ _ _ h => h) (Or.inl ⟨by rfl, fun W hW => ?_⟩) hHeld ?_
  · have c := (HQ.out W hW).ptr.ptr
    clear hW
    go_simp
  try simp only [Act.put, List.getElem_toArray, List.getElem_cons_zero, List.setIfInBounds_toArray, List.set_cons_zero, List.set_cons_succ]
  refine wpAnyH_take (i := 1) (v := .pointer (some ⟨g, 0, none⟩)) rfl (by kernel_rfl) (by kernel_rfl) (by kernel_rfl) (fun _ _ _ h => h) (Or.inl ⟨by rfl, fun W hW => ?_⟩) hHeld ?_
  · clear hW
    go_simp
  try simp only [Act.put, List.getElem_toArray, List.getElem_cons_zero, List.getElem_cons_succ, List.setIfInBounds_toArray, List.set_cons_zero, List.set_cons_succ]
  refine wpAnyH_take (i := 2) (v := .pointer (some ⟨g, 0, none⟩)) rfl (by kernel_rfl) (by kernel_rfl) (by kernel_rfl) (fun _ _ _ h => h) (Or.inl ⟨by rfl, fun W hW => ?_⟩) hHeld ?_
  · clear hW
    go_simp
  try simp only [Act.put, List.getElem_toArray, List.getElem_cons_zero, List.getElem_cons_succ, List.setIfInBounds_toArray, List.set_cons_zero, List.set_cons_succ]
  refine wpAnyH_take (i := 3) (v := tellA s a ca) rfl (by kernel_rfl) (by kernel_rfl) (by kernel_rfl) (fun _ _ _ h => h) (Or.inl ⟨by rfl, fun W hW => ?_⟩) hHeld ?_
  · have c := (HQ.out W hW).rd.tell
    clear hW
    go_simp
  try simp only [Act.put, List.getElem_toArray, List.getElem_cons_zero, List.getElem_cons_succ, List.setIfInBounds_toArray, List.set_cons_zero, List.set_cons_succ]
  refine wpAnyH_take (i := 4) (v := .int .i64 (bs : Int)) rfl (by kernel_rfl) (by kernel_rfl) (by kernel_rfl) (fun _ _ _ h => h) (Or.inl ⟨by rfl, fun W hW => ?_⟩) hHeld ?_
  · have c := HB.out W hW
    clear hW
    go_simp
  try simp only [Act.put, List.getElem_toArray, List.getElem_cons_zero, List.getElem_cons_succ, List.setIfInBounds_toArray, List.set_cons_zero, List.set_cons_succ]
  refine wpAnyH_take (i := 5) (v := .int .i64 (p : Int)) rfl (by kernel_rfl) (by kernel_rfl) (by kernel_rfl) (fun _ _ _ h => h) (Or.inl ⟨by rfl, fun W hW => ?_⟩) hHeld ?_
  · clear hW
    go_simp
  try simp only [Act.put, List.getElem_toArray, List.getElem_cons_zero, List.getElem_cons_succ, List.setIfInBounds_toArray, List.set_cons_zero, List.set_cons_succ]
  refine wpAnyH_take (i := 6) (v := .int .i64 ((bs + p : Nat) : Int)) rfl (by kernel_rfl) (by kernel_rfl) (by kernel_rfl) (fun _ _ _ h => h) (Or.inl ⟨by rfl, fun W hW => ?_⟩) hHeld ?_
  · clear hW
    go_simp
  try simp only [Act.put, List.getElem_toArray, List.getElem_cons_zero, List.getElem_cons_succ, List.setIfInBounds_toArray, List.set_cons_zero, List.set_cons_succ]
  refine wpAnyH_take (i := 7) (v := .pointer (some ⟨N, 7, none⟩)) rfl (by kernel_rfl) (by kernel_rfl) (by kernel_rfl) (fun _ _ _ h => h) (Or.inl ⟨by rfl, fun W hW => ?_⟩) hHeld ?_
  · clear hW
    go_simp
  try simp only [Act.put, List.getElem_toArray, List.getElem_cons_zero, List.getElem_cons_succ, List.setIfInBounds_toArray, List.set_cons_zero, List.set_cons_succ]
  refine wpAnyH_take (i := 8) (v := .pointer (some ⟨D, 2, none⟩)) rfl (by kernel_rfl) (by kernel_rfl) (by kernel_rfl) (fun _ _ _ h => h) (Or.inl ⟨by rfl, fun W hW => ?_⟩) hHeld ?_
  · clear hW
    go_simp
  try simp only [Act.put, List.getElem_toArray, List.getElem_cons_zero, List.getElem_cons_succ, List.setIfInBounds_toArray, List.set_cons_zero, List.set_cons_succ]
  refine wpAnyH_take (i := 9) (v := .int .i64 (L : Int)) rfl (by kernel_rfl) (by kernel_rfl) (by kernel_rfl) (fun _ _ _ h => h) (Or.inl ⟨by rfl, fun W hW => ?_⟩) hHeld ?_
  · have c := HE.out W hW
    clear hW
    go_simp
  try simp only [Act.put, List.getElem_toArray, List.getElem_cons_zero, List.getElem_cons_succ, List.setIfInBounds_toArray, List.set_cons_zero, List.set_cons_succ]
  refine wpAnyH_take (i := 10) (v := .slice (some ⟨N, 7, none⟩) L 16) rfl (by kernel_rfl) (by kernel_rfl) (by kernel_rfl) (fun _ _ _ h => h) (Or.inl ⟨by rfl, fun W hW => ?_⟩) hHeld ?_
  · clear hW
    go_simp
  try simp only [Act.put, List.getElem_toArray, List.getElem_cons_zero, List.getElem_cons_succ, List.setIfInBounds_toArray, List.set_cons_zero, List.set_cons_succ]
  refine wpAnyH_take (i := 11) (v := .int .i64 (n : Int)) rfl (by kernel_rfl) (by kernel_rfl) (by kernel_rfl) (fun _ _ _ h => h) (Or.inl ⟨by rfl, fun W hW => ?_⟩) hHeld ?_
  · have c := (HQ.out W hW).bits.int
    clear hW
    go_simp
  try simp only [Act.put, List.getElem_toArray, List.getElem_cons_zero, List.getElem_cons_succ, List.setIfInBounds_toArray, List.set_cons_zero, List.set_cons_succ]
  refine wpAnyH_take (i := 12) (v := tellA s a ca) rfl (by kernel_rfl) (by kernel_rfl) (by kernel_rfl) (fun _ _ _ h => h) (Or.inl ⟨by rfl, fun W hW => ?_⟩) hHeld ?_
  · clear hW
    go_simp
  try simp only [Act.put, List.getElem_toArray, List.getElem_cons_zero, List.getElem_cons_succ, List.setIfInBounds_toArray, List.set_cons_zero, List.set_cons_succ]
  refine wpAnyH_take (i := 13) (v := tellA s a ca) rfl (by kernel_rfl) (by kernel_rfl) (by kernel_rfl) (fun _ _ _ h => h) (Or.inl ⟨by rfl, fun W hW => ?_⟩) hHeld ?_
  · clear hW
    go_simp
  try simp only [Act.put, List.getElem_toArray, List.getElem_cons_zero, List.getElem_cons_succ, List.setIfInBounds_toArray, List.set_cons_zero, List.set_cons_succ]
  refine wpAnyH_ready (rs := [14]) (by kernel_rfl) (by simp) (AllReadyH.cons rfl (fun K hK => ?_) AllReadyH.nil)
  go_simp
  refine (CA _ hHeld).mono ?_
  rintro e w2 ⟨rfl, K2⟩
  go_wp2_with fail
  refine hK.out _ _ (grown_trans hHeld K2) (fun hHeld => ?_)
  clear hK K
  try simp only [Act.put, List.getElem_toArray, List.getElem_cons_zero, List.getElem_cons_succ, List.setIfInBounds_toArray, List.set_cons_zero, List.set_cons_succ]
  refine wpAnyH_ready (rs := [15]) (by kernel_rfl) (by simp) (AllReadyH.cons rfl (fun K hK => ?_) AllReadyH.nil)
  go_simp
  refine (judged_any _ _).mono ?_
  rintro e w3 ⟨rfl, K3⟩
  go_wp2_with fail
  refine hK.out _ _ (K3 ▸ hHeld) (fun hHeld => ?_)
  clear hK K
  try simp only [Act.put, List.getElem_toArray, List.getElem_cons_zero, List.getElem_cons_succ, List.setIfInBounds_toArray, List.set_cons_zero, List.set_cons_succ]
  refine wpAnyH_take (i := 16) (v := .int .i64 (jdg F)) rfl (by kernel_rfl) (by kernel_rfl) (by kernel_rfl) (fun _ _ _ h => h) (Or.inl ⟨by rfl, fun W hW => ?_⟩) hHeld ?_
  · clear hW
    go_simp
  try simp only [Act.put, List.getElem_toArray, List.getElem_cons_zero, List.getElem_cons_succ, List.setIfInBounds_toArray, List.set_cons_zero, List.set_cons_succ]
  refine wpAnyH_done (by kernel_rfl) ?_ _

  have G : w.grownBy w3 none := hHeld
  clear hHeld
  go_wp2
  go_ret
  exact ⟨rfl, G⟩

end Go.Proofs.YtnojpepjloceoaaGreat
