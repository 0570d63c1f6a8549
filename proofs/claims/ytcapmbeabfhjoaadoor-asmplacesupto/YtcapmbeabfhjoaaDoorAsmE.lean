/-
  Package asm reads: letters, and steps in turn.
-/
import Derived.Test.YtcapmbeabfhjoaaDoorAsmD
namespace Go.Proofs.YtcapmbeabfhjoaaDoor
open Go.RowKit
set_option maxRecDepth 100000

set_option maxHeartbeats 1000000 in
theorem letter_any (x : UInt8) (w : World) (hx : letterB x = true) :
    Calls Tryd.prog 50 #[.int .u8 (x.toNat : Int)] w fun e w' => ∃ v, e = .returned v ∧ Does [] v (numV x) ∧ w = w' := by
  simp only [letterB, Bool.or_eq_true, beq_iff_eq] at hx
  rcases hx with rfl | rfl | rfl | rfl
  · go_enter Tryd.func50, Tryd.ntmps50
    go_wp2
    go_ret
    exact ⟨_, rfl, ⟨61, _, rfl, enters_of Tryd.func61 (by kernel_rfl) rfl, fun W p S c t f k _ _ R hs => code_any p S c t f k W R hs⟩, rfl⟩
  · go_enter Tryd.func50, Tryd.ntmps50
    go_wp2
    go_ret
    exact ⟨_, rfl, ⟨62, _, rfl, enters_of Tryd.func62 (by kernel_rfl) rfl, fun W p S c t f k _ _ R hs => jt_any p S c t f k W R hs⟩, rfl⟩
  · go_enter Tryd.func50, Tryd.ntmps50
    go_wp2
    go_ret
    exact ⟨_, rfl, ⟨63, _, rfl, enters_of Tryd.func63 (by kernel_rfl) rfl, fun W p S c t f k _ _ R hs => jf_any p S c t f k W R hs⟩, rfl⟩
  · go_enter Tryd.func50, Tryd.ntmps50
    go_wp2
    go_ret
    exact ⟨_, rfl, ⟨64, _, rfl, enters_of Tryd.func64 (by kernel_rfl) rfl, fun W p S c t f k _ _ R hs => const_any p S c t f k W R hs⟩, rfl⟩

/-- Steps in turn. -/
abbrev Stp : Type := Value × (Rd → Option Rd)
def runsP : List Stp → Rd → Option Rd
  | [], r => some r
  | q :: qs, r => (q.2 r).bind (runsP qs)
theorem runsP_app (a b : List Stp) (r : Rd) : runsP (a ++ b) r = (runsP a r).bind (runsP b) := by
  induction a generalizing r with
  | nil => rfl
  | cons q a ih =>
    rw [List.cons_append, runsP, runsP]
    cases q.2 r with
    | none => rfl
    | some r' => exact ih r'

set_option maxHeartbeats 4000000 in
theorem turn1_any (fp : Fp) (w : World) (p B : Nat) (a : Option Addr) (ca : Nat) (ps : List Stp) (S : ByteArray) (c t f k : Nat) (hB : w.cell? ⟨B, 0, none⟩ = some (.slice a ps.length ca)) (hC : CV w a (ps.map fun q => q.1))
    (hD : ∀ q ∈ ps, Does fp q.1 q.2) (H : Held fp w) (hp : ∀ x ∈ fp, x.1 ≠ p) (hpa : ∀ ad, a = some ad → ad.block ≠ p) (R : RdAt w p S c t f k) (hS : S.size ≤ 1048576) (hl : ps.length ≤ 1000000) :
    Calls Tryd.prog 51 #[.pointer (some ⟨p, 0, none⟩), .pointer (some ⟨B, 0, none⟩)] w fun e w' => StepPost w w' e p ((runsP ps (sl S, c, t, f, k)).bind endV) := by
  have HC : Hid (CV w a (ps.map fun q => q.1)) := hC
  have HD : Hid (∀ q ∈ ps, Does fp q.1 q.2) := hD
  have HH : Hid (Held fp w ∧ (∀ x ∈ fp, x.1 ≠ p)) := ⟨H, hp⟩
  have HPA : Hid (∀ ad, a = some ad → ad.block ≠ p) := hpa
  clear H hp hpa
  obtain ⟨r0, hr0⟩ : ∃ r0, runsP ps (sl S, c, t, f, k) = r0 := ⟨_, rfl⟩
  rw [hr0]
  have HR0 : Hid (runsP ps (sl S, c, t, f, k) = r0) := hr0
  clear hC hD hr0
  go_enter Tryd.func51, Tryd.ntmps51
  go_wp2
  clear hB
  go_loopw [8] (fun i wr => ∃ (j : Nat) (S : ByteArray) (c t f k : Nat), j ≤ ps.length ∧ i = .int .i64 j ∧ Hid (runsP (ps.drop j) (sl S, c, t, f, k) = r0) ∧ RdAt wr p S c t f k ∧ w.grownBy wr (some p) ∧ S.size ≤ 1048576) (fun i _ => ps.length - (intOf i).toNat)
  case atStart => exact ⟨0, S, c, t, f, k, Nat.zero_le _, rfl, HR0, R, World.grownBy.refl _ _, hS⟩
  case round =>
    clear R hS HR0
    clear S c t f k
    obtain ⟨j, S, c, t, f, k, hj, rfl, HR, R, K, hS⟩ := hrel
    by_cases hlt : j < ps.length
    · have hlt' : (j : Int) < (ps.length : Int) := by omega
      obtain ⟨b, o, rfl, hc⟩ := HC.out.addr (k := j) (by simpa using hlt)
      have hcj := hc j (by simpa using hlt)
      have hcw := K.cell hcj (by intro e; exact HPA.out _ rfl (Option.some.inj e))
      have H1 : Hid (Held fp wr) := HH.out.1.grown K (fun x hx e => HH.out.2 x hx (Option.some.inj e).symm)
      clear hc hcj
      have HE : Hid (ps.drop j = ps[j] :: ps.drop (j + 1)) := List.drop_eq_getElem_cons hlt
      rw [List.getElem_map] at hcw
      have hd := HD.out ps[j] (List.getElem_mem hlt)
      generalize ps[j] = q at *
      obtain ⟨v, g⟩ := q
      obtain ⟨n, lb, hv, he, hcall⟩ := hd
      simp only at hv hcall hcw
      subst hv
      have cS := hcall wr p S c t f k H1.out HH.out.2 R hS
      clear hcall R
      go_wp2_with (go_at_fn n; refine cS.mono ?_; rintro e w1 ⟨S', c', t', f', k', b', rfl, R1, K1, hS1, hy, hno⟩)
      · have hb : b' = false := by simpa using (by assumption : (!b') = true)
        have hr : r0 = none := by
          rw [← HR.out, HE.out, runsP]
          show (g (sl S, c, t, f, k)).bind _ = _
          rw [hno hb]
          rfl
        go_ret
        exact ⟨S', c', t', f', k', false, rfl, R1, grown_trans K K1, hS1, fun h => absurd h (by simp), fun _ => by rw [hr]; rfl⟩
      · have hb : b' = true := by simpa using (by assumption : (!b') = false)
        have hr : Hid (runsP (ps.drop (j + 1)) (sl S', c', t', f', k') = r0) := by
          show runsP (ps.drop (j + 1)) (sl S', c', t', f', k') = r0
          rw [← HR.out, HE.out, runsP]
          show _ = (g (sl S, c, t, f, k)).bind _
          rw [hy hb]
          rfl
        refine ⟨⟨j + 1, S', c', t', f', k', by omega, by go_num, hr, R1, grown_trans K K1, hS1⟩, ?_⟩
        simp [intOf]; omega
    · obtain rfl : j = ps.length := by omega
      have hr : r0 = some (sl S, c, t, f, k) := by
        rw [← HR.out, List.drop_length]; rfl
      have hx := R.cells.1
      have HRd : Hid (RdAt wr p S c t f k) := R
      clear R
      go_wp2
      go_ret
      refine ⟨S, c, t, f, k, _, rfl, HRd.out, K, hS, fun h => ?_, fun h => ?_⟩
      · rw [hr]
        rw [toList_sl, List.isEmpty_iff] at h
        show endV (sl S, c, t, f, k) = _
        rw [endV, if_pos h]
      · rw [hr]
        rw [toList_sl] at h
        show endV (sl S, c, t, f, k) = _
        rw [endV, if_neg (fun e => by rw [show sl S = [] from e] at h; simp at h)]

end Go.Proofs.YtcapmbeabfhjoaaDoor
