/-
  Package mean as landed: addresses that are alike.
-/
import Derived.Test.YtnojpepjloceoaaGreatMnD
namespace Go.Proofs.YtnojpepjloceoaaGreat
open Go.RowKit
set_option maxRecDepth 100000

/-- A piece of bytes that lie somewhere. -/
theorem Cells.part {w : World} {a : Option Addr} {xs : List UInt8} (h : Cells w a xs) {p n : Nat} (hp : p + n ≤ xs.length) (hn : 0 < n) : ∃ b o, a = some ⟨b, o, none⟩ ∧ Cells w (some ⟨b, o + p, none⟩) ((xs.drop p).take n) := by
  obtain ⟨b, o, rfl, h1⟩ := h.addr (k := p) (by omega)
  refine ⟨b, o, rfl, (fun e => by cases e), fun ad had j hj => ?_⟩
  cases had
  have hj2 : j < n := by rw [List.length_take] at hj; omega
  have := h1 (p + j) (by omega)
  rw [Addr.add_lit, show o + p + j = o + (p + j) by omega, this]
  simp
  rfl

theorem Cells.take {w : World} {b o : Nat} {xs : List UInt8} (h : Cells w (some ⟨b, o, none⟩) xs) (n : Nat) : Cells w (some ⟨b, o, none⟩) (xs.take n) := by
  refine ⟨(fun e => by cases e), fun ad had j hj => ?_⟩
  cases had
  have hj2 : j < xs.length := by rw [List.length_take] at hj; omega
  rw [h.2 _ rfl j hj2]
  simp
theorem bits_xor8 (x y : UInt8) : bits .xor .u8 (x.toNat : Int) (y.toNat : Int) = ((x.toNat ^^^ y.toNat : Nat) : Int) := by
  have hx := x.toNat_lt
  have hy := y.toNat_lt
  have : x.toNat ^^^ y.toNat < 256 := Nat.xor_lt_two_pow (n := 8) hx hy
  exact u8_xor_nat x.toNat y.toNat (by omega) (by omega)

theorem mask_yes {xs ys : List UInt8} {n q r : Nat} (hl : xs.length = ys.length) (hq : n / 8 = q) (hr : n % 8 = r) : (maskV n xs = maskV n ys) ↔ (xs.take q = ys.take q ∧ (r = 0 ∨ ((xs.getD q 0).toNat ^^^ (ys.getD q 0).toNat) / 2 ^ (8 - r) = 0)) := by
  rw [mask_alike xs ys n hl, hq, hr, xor_shift]
set_option maxHeartbeats 2000000 in
theorem valike_any (s : Sg) (a : Option Addr) (ca : Nat) (p : Nat) (db dof : Nat) (cd : Nat) (ad : List UInt8) (n : Nat) (hb : s.b.length ≤ 65535) (hcap : s.b.length ≤ ca) (w : World) (hc : Cells w a s.b) (hd : Cells w (some ⟨db, dof, none⟩) ad) (hcd : ad.length ≤ cd) (h0 : 0 < ad.length) (hp : p + ad.length ≤ s.b.length) (hn : n ≤ 8 * ad.length) :
    Calls Tryz.prog 161 #[.agg (viewC s a ca), .int .i64 (p : Int), .slice (some ⟨db, dof, none⟩) ad.length cd, .int .i64 (n : Int)] w fun e w' => e = .returned (.bool (alikeM s.b p ad (n : Int))) ∧ w.grownBy w' none := by
  obtain ⟨b, o, ha, C1⟩ := hc.part hp h0
  obtain ⟨q, hq⟩ : ∃ q, n / 8 = q := ⟨_, rfl⟩
  obtain ⟨r, hr⟩ : ∃ r, n % 8 = r := ⟨_, rfl⟩
  obtain ⟨L, hL⟩ : ∃ L, ad.length = L := ⟨_, rfl⟩
  rw [hL] at hcd h0 hp hn C1 ⊢
  obtain ⟨own, hown⟩ : ∃ own, (s.b.drop p).take L = own := ⟨_, rfl⟩
  have hol : own.length = L := by rw [← hown, List.length_take, List.length_drop]; omega
  have HA : Hid (alikeM s.b p ad (n : Int) = decide (own.take q = ad.take q ∧ (r = 0 ∨ ((own.getD q 0).toNat ^^^ (ad.getD q 0).toNat) / 2 ^ (8 - r) = 0))) := by
    show _ = _
    unfold alikeM
    rw [hL, hown, Int.toNat_natCast]
    exact decide_eq_decide.2 (mask_yes (by omega) hq hr)
  rw [hown] at C1
  obtain ⟨E, hE⟩ : ∃ E, alikeM s.b p ad (n : Int) = E := ⟨_, rfl⟩
  rw [hE] at HA ⊢
  have HQ : Hid (q ≤ L ∧ r < 8 ∧ (r ≠ 0 → q < L)) := ⟨by omega, by omega, by omega⟩
  have HBX := box_view s a ca
  have h1 := VB.alloc w s a ca
  have h3 := World.grownBy_alloc w (.cells (viewC s a ca) 86) none
  obtain ⟨X, hX⟩ : ∃ X, viewC s a ca = X := ⟨_, rfl⟩
  rw [hX] at HBX ⊢
  go_enter Tryz.func161, Tryz.ntmps161
  go_upto_region 1 with fail
  rw [← hX] at *
  generalize w.alloc (.cells (viewC s a ca) 86) = w1 at *
  generalize w.heap.size = B at *
  clear HBX hX X
  have c := h1.frame
  rw [ha] at c
  go_upto_region 3 with fail
  have hq1 : (n : Int) / 8 = (q : Int) := by omega
  have hr1 : (n : Int) % 8 = (r : Int) := by omega
  obtain ⟨cp, hcp⟩ : ∃ cp, ca - p = cp := ⟨_, rfl⟩
  have hqc : q ≤ cp := by have := HQ.out.1; omega
  have hqd : q ≤ cd := by have := HQ.out.1; omega
  have hLc : Hid (L ≤ cp) := by show L ≤ cp; omega
  rw [hq1, hr1, hcp, show p + L - p = L by omega]
  have D1 : Hid (Cells w1 (some ⟨b, o + p, none⟩) own) := C1.keptNone h3
  have D2 : Hid (Cells w1 (some ⟨db, dof, none⟩) ad) := hd.keptNone h3
  have HO : Hid (own.length = L ∧ ad.length = L) := ⟨hol, hL⟩
  have HG : Hid (w.grownBy w1 none) := h3
  clear hq1 hr1 hcp hb hcap hc hd hcd h0 hp hn ha C1 hq hr hL hown hol hE h1 h3 c
  have CE : ∀ W, w1.grownBy W none → Calls Tryz.prog 127 #[.slice (some ⟨b, o + p, none⟩) q cp, .slice (some ⟨db, dof, none⟩) q cd] W fun e w' => e = .returned (.bool (decide (own.take q = ad.take q))) ∧ W = w' := fun W K => by
    have h := equal_any (some ⟨b, o + p, none⟩) (some ⟨db, dof, none⟩) cp cd (own.take q) (ad.take q) W ((D1.out.keptNone K).take q) ((D2.out.keptNone K).take q)
    rw [List.length_take, List.length_take, HO.out.1, HO.out.2, Nat.min_eq_left HQ.out.1] at h
    exact h
  have hqL : q ≤ L := HQ.out.1
  generalize o + p = O at *
  refine wp_region_held_drew (S := fun W => w1.grownBy W none) (by kernel_rfl) (grown_drewN w1 1 none) (fun hHeld => ?_)
  refine wpAnyH_take (i := 0) (v := .slice (some ⟨b, O, none⟩) L cp) rfl (by kernel_rfl) (by kernel_rfl) (by kernel_rfl) (fun _ _ _ h => h) (Or.inl ⟨by rfl, fun W hW => ?_⟩) hHeld ?_
  · clear hW
    go_simp
  try simp only [Act.put, List.getElem_toArray, List.getElem_cons_zero, List.setIfInBounds_toArray, List.set_cons_zero, List.set_cons_succ]
  refine wpAnyH_take (i := 1) (v := .int .i64 (q : Int)) rfl (by kernel_rfl) (by kernel_rfl) (by kernel_rfl) (fun _ _ _ h => h) (Or.inl ⟨by rfl, fun W hW => ?_⟩) hHeld ?_
  · clear hW
    go_simp
  try simp only [Act.put, List.getElem_toArray, List.getElem_cons_zero, List.getElem_cons_succ, List.setIfInBounds_toArray, List.set_cons_zero, List.set_cons_succ]
  refine wpAnyH_take (i := 2) (v := .slice (some ⟨b, O, none⟩) q cp) rfl (by kernel_rfl) (by kernel_rfl) (by kernel_rfl) (fun _ _ _ h => h) (Or.inl ⟨by rfl, fun W hW => ?_⟩) hHeld ?_
  · clear hW
    go_simp
  try simp only [Act.put, List.getElem_toArray, List.getElem_cons_zero, List.getElem_cons_succ, List.setIfInBounds_toArray, List.set_cons_zero, List.set_cons_succ]
  refine wpAnyH_take (i := 3) (v := .slice (some ⟨db, dof, none⟩) L cd) rfl (by kernel_rfl) (by kernel_rfl) (by kernel_rfl) (fun _ _ _ h => h) (Or.inl ⟨by rfl, fun W hW => ?_⟩) hHeld ?_
  · clear hW
    go_simp
  try simp only [Act.put, List.getElem_toArray, List.getElem_cons_zero, List.getElem_cons_succ, List.setIfInBounds_toArray, List.set_cons_zero, List.set_cons_succ]
  refine wpAnyH_take (i := 4) (v := .int .i64 (q : Int)) rfl (by kernel_rfl) (by kernel_rfl) (by kernel_rfl) (fun _ _ _ h => h) (Or.inl ⟨by rfl, fun W hW => ?_⟩) hHeld ?_
  · clear hW
    go_simp
  try simp only [Act.put, List.getElem_toArray, List.getElem_cons_zero, List.getElem_cons_succ, List.setIfInBounds_toArray, List.set_cons_zero, List.set_cons_succ]
  refine wpAnyH_take (i := 5) (v := .slice (some ⟨db, dof, none⟩) q cd) rfl (by kernel_rfl) (by kernel_rfl) (by kernel_rfl) (fun _ _ _ h => h) (Or.inl ⟨by rfl, fun W hW => ?_⟩) hHeld ?_
  · clear hW
    go_simp
  try simp only [Act.put, List.getElem_toArray, List.getElem_cons_zero, List.getElem_cons_succ, List.setIfInBounds_toArray, List.set_cons_zero, List.set_cons_succ]
  refine wpAnyH_ready (rs := [6]) (by kernel_rfl) (by simp) (AllReadyH.cons rfl (fun K hK => ?_) AllReadyH.nil)
  go_simp
  refine (CE _ hHeld).mono ?_
  rintro e w2 ⟨rfl, K2⟩
  go_wp2_with fail
  refine hK.out _ _ (K2 ▸ hHeld) (fun hHeld => ?_)
  clear hK K
  try simp only [Act.put, List.getElem_toArray, List.getElem_cons_zero, List.getElem_cons_succ, List.setIfInBounds_toArray, List.set_cons_zero, List.set_cons_succ]
  refine wpAnyH_take (i := 7) (v := .bool (!decide (own.take q = ad.take q))) rfl (by kernel_rfl) (by kernel_rfl) (by kernel_rfl) (fun _ _ _ h => h) (Or.inl ⟨by rfl, fun W hW => ?_⟩) hHeld ?_
  · clear hW
    go_simp
  try simp only [Act.put, List.getElem_toArray, List.getElem_cons_zero, List.getElem_cons_succ, List.setIfInBounds_toArray, List.set_cons_zero, List.set_cons_succ]
  refine wpAnyH_done (by kernel_rfl) ?_ _

  have HK : Hid (w1.grownBy w2 none) := hHeld
  clear hHeld CE
  by_cases heq : own.take q = ad.take q
  case neg =>
    have HF : Hid (E = false) := by
      show E = false
      rw [HA.out, decide_eq_false]
      exact fun h => heq h.1
    rw [decide_eq_false heq]
    clear heq HA
    go_wp2
    go_ret
    exact ⟨ret_bool HF.out.symm, grown_trans HG.out HK.out⟩
  case pos =>
    rw [decide_eq_true heq]
    by_cases hr0 : r = 0
    · have HF : Hid (E = true) := by
        show E = true
        rw [HA.out, decide_eq_true]
        exact ⟨heq, .inl hr0⟩
      subst hr0
      clear heq HA
      go_upto_region 5 with fail
      refine wp_region_held_drew (S := fun W => w1.grownBy W none) (by kernel_rfl) (grown_trans HK.out (grown_drewN w2 1 none)) (fun hHeld => ?_)
      refine wpAnyH_take (i := 0) (v := .int .i64 0) rfl (by kernel_rfl) (by kernel_rfl) (by kernel_rfl) (fun _ _ _ h => h) (Or.inl ⟨by rfl, fun W hW => ?_⟩) hHeld ?_
      · clear hW
        go_simp
      try simp only [Act.put, List.getElem_toArray, List.getElem_cons_zero, List.setIfInBounds_toArray, List.set_cons_zero, List.set_cons_succ]
      refine wpAnyH_take (i := 1) (v := .bool true) rfl (by kernel_rfl) (by kernel_rfl) (by kernel_rfl) (fun _ _ _ h => h) (Or.inl ⟨by rfl, fun W hW => ?_⟩) hHeld ?_
      · clear hW
        go_simp
      try simp only [Act.put, List.getElem_toArray, List.getElem_cons_zero, List.getElem_cons_succ, List.setIfInBounds_toArray, List.set_cons_zero, List.set_cons_succ]
      refine wpAnyH_take (i := 2) (v := .bool true) rfl (by kernel_rfl) (by kernel_rfl) (by kernel_rfl) (fun _ _ _ h => h) (Or.inl ⟨by rfl, fun W hW => ?_⟩) hHeld ?_
      · clear hW
        go_simp
      try simp only [Act.put, List.getElem_toArray, List.getElem_cons_zero, List.getElem_cons_succ, List.setIfInBounds_toArray, List.set_cons_zero, List.set_cons_succ]
      refine wpAnyH_take (i := 3) (v := undef) rfl (by kernel_rfl) (by kernel_rfl) (by kernel_rfl) (fun _ _ _ h => h) (Or.inr ⟨by rfl, rfl⟩) hHeld ?_
      try simp only [Act.put, List.getElem_toArray, List.getElem_cons_zero, List.getElem_cons_succ, List.setIfInBounds_toArray, List.set_cons_zero, List.set_cons_succ]
      refine wpAnyH_take (i := 4) (v := undef) rfl (by kernel_rfl) (by kernel_rfl) (by kernel_rfl) (fun _ _ _ h => h) (Or.inr ⟨by rfl, rfl⟩) hHeld ?_
      try simp only [Act.put, List.getElem_toArray, List.getElem_cons_zero, List.getElem_cons_succ, List.setIfInBounds_toArray, List.set_cons_zero, List.set_cons_succ]
      refine wpAnyH_take (i := 5) (v := undef) rfl (by kernel_rfl) (by kernel_rfl) (by kernel_rfl) (fun _ _ _ h => h) (Or.inr ⟨by rfl, rfl⟩) hHeld ?_
      try simp only [Act.put, List.getElem_toArray, List.getElem_cons_zero, List.getElem_cons_succ, List.setIfInBounds_toArray, List.set_cons_zero, List.set_cons_succ]
      refine wpAnyH_take (i := 6) (v := undef) rfl (by kernel_rfl) (by kernel_rfl) (by kernel_rfl) (fun _ _ _ h => h) (Or.inr ⟨by rfl, rfl⟩) hHeld ?_
      try simp only [Act.put, List.getElem_toArray, List.getElem_cons_zero, List.getElem_cons_succ, List.setIfInBounds_toArray, List.set_cons_zero, List.set_cons_succ]
      refine wpAnyH_take (i := 7) (v := undef) rfl (by kernel_rfl) (by kernel_rfl) (by kernel_rfl) (fun _ _ _ h => h) (Or.inr ⟨by rfl, rfl⟩) hHeld ?_
      try simp only [Act.put, List.getElem_toArray, List.getElem_cons_zero, List.getElem_cons_succ, List.setIfInBounds_toArray, List.set_cons_zero, List.set_cons_succ]
      refine wpAnyH_take (i := 8) (v := undef) rfl (by kernel_rfl) (by kernel_rfl) (by kernel_rfl) (fun _ _ _ h => h) (Or.inr ⟨by rfl, rfl⟩) hHeld ?_
      try simp only [Act.put, List.getElem_toArray, List.getElem_cons_zero, List.getElem_cons_succ, List.setIfInBounds_toArray, List.set_cons_zero, List.set_cons_succ]
      refine wpAnyH_take (i := 9) (v := undef) rfl (by kernel_rfl) (by kernel_rfl) (by kernel_rfl) (fun _ _ _ h => h) (Or.inr ⟨by rfl, rfl⟩) hHeld ?_
      try simp only [Act.put, List.getElem_toArray, List.getElem_cons_zero, List.getElem_cons_succ, List.setIfInBounds_toArray, List.set_cons_zero, List.set_cons_succ]
      refine wpAnyH_take (i := 10) (v := undef) rfl (by kernel_rfl) (by kernel_rfl) (by kernel_rfl) (fun _ _ _ h => h) (Or.inr ⟨by rfl, rfl⟩) hHeld ?_
      try simp only [Act.put, List.getElem_toArray, List.getElem_cons_zero, List.getElem_cons_succ, List.setIfInBounds_toArray, List.set_cons_zero, List.set_cons_succ]
      refine wpAnyH_take (i := 11) (v := undef) rfl (by kernel_rfl) (by kernel_rfl) (by kernel_rfl) (fun _ _ _ h => h) (Or.inr ⟨by rfl, rfl⟩) hHeld ?_
      try simp only [Act.put, List.getElem_toArray, List.getElem_cons_zero, List.getElem_cons_succ, List.setIfInBounds_toArray, List.set_cons_zero, List.set_cons_succ]
      refine wpAnyH_take (i := 12) (v := undef) rfl (by kernel_rfl) (by kernel_rfl) (by kernel_rfl) (fun _ _ _ h => h) (Or.inr ⟨by rfl, rfl⟩) hHeld ?_
      try simp only [Act.put, List.getElem_toArray, List.getElem_cons_zero, List.getElem_cons_succ, List.setIfInBounds_toArray, List.set_cons_zero, List.set_cons_succ]
      refine wpAnyH_take (i := 13) (v := undef) rfl (by kernel_rfl) (by kernel_rfl) (by kernel_rfl) (fun _ _ _ h => h) (Or.inr ⟨by rfl, rfl⟩) hHeld ?_
      try simp only [Act.put, List.getElem_toArray, List.getElem_cons_zero, List.getElem_cons_succ, List.setIfInBounds_toArray, List.set_cons_zero, List.set_cons_succ]
      refine wpAnyH_take (i := 14) (v := undef) rfl (by kernel_rfl) (by kernel_rfl) (by kernel_rfl) (fun _ _ _ h => h) (Or.inr ⟨by rfl, rfl⟩) hHeld ?_
      try simp only [Act.put, List.getElem_toArray, List.getElem_cons_zero, List.getElem_cons_succ, List.setIfInBounds_toArray, List.set_cons_zero, List.set_cons_succ]
      refine wpAnyH_take (i := 15) (v := undef) rfl (by kernel_rfl) (by kernel_rfl) (by kernel_rfl) (fun _ _ _ h => h) (Or.inr ⟨by rfl, rfl⟩) hHeld ?_
      try simp only [Act.put, List.getElem_toArray, List.getElem_cons_zero, List.getElem_cons_succ, List.setIfInBounds_toArray, List.set_cons_zero, List.set_cons_succ]
      refine wpAnyH_take (i := 16) (v := .bool true) rfl (by kernel_rfl) (by kernel_rfl) (by kernel_rfl) (fun _ _ _ h => h) (Or.inl ⟨by rfl, fun W hW => ?_⟩) hHeld ?_
      · clear hW
        go_simp
      try simp only [Act.put, List.getElem_toArray, List.getElem_cons_zero, List.getElem_cons_succ, List.setIfInBounds_toArray, List.set_cons_zero, List.set_cons_succ]
      refine wpAnyH_take (i := 17) (v := .bool true) rfl (by kernel_rfl) (by kernel_rfl) (by kernel_rfl) (fun _ _ _ h => h) (Or.inl ⟨by rfl, fun W hW => ?_⟩) hHeld ?_
      · clear hW
        go_simp
      try simp only [Act.put, List.getElem_toArray, List.getElem_cons_zero, List.getElem_cons_succ, List.setIfInBounds_toArray, List.set_cons_zero, List.set_cons_succ]
      refine wpAnyH_done (by kernel_rfl) ?_ _

      have G := grown_trans HG.out hHeld
      clear hHeld
      go_wp2
      go_ret
      exact ⟨ret_bool HF.out.symm, G⟩
    · have hqlt : q < L := HQ.out.2.2 hr0
      obtain ⟨x, hx⟩ : ∃ x, own.getD q 0 = x := ⟨_, rfl⟩
      obtain ⟨y, hy⟩ : ∃ y, ad.getD q 0 = y := ⟨_, rfl⟩
      have HF : Hid (E = decide ((x.toNat ^^^ y.toNat) / 2 ^ (8 - r) = 0)) := by
        show E = _
        rw [HA.out, hx, hy]
        apply decide_eq_decide.2
        constructor
        · rintro ⟨-, h | h⟩
          · exact absurd h hr0
          · exact h
        · exact fun h => ⟨heq, .inr h⟩
      have HX : Hid ((∀ W, w1.grownBy W none → W.cell? ⟨b, O + q, none⟩ = some (.int .u8 (x.toNat : Int))) ∧ (∀ W, w1.grownBy W none → W.cell? ⟨db, dof + q, none⟩ = some (.int .u8 (y.toNat : Int)))) := by
        have l1 := HO.out.1
        have l2 := HO.out.2
        refine ⟨fun W K => ?_, fun W K => ?_⟩
        · have := (D1.out.keptNone K).2 _ rfl q (by omega)
          rw [Addr.add_lit] at this
          rw [this, ← hx, List.getD_eq_getElem?_getD, List.getElem?_eq_getElem (by omega)]
          rfl
        · have := (D2.out.keptNone K).2 _ rfl q (by omega)
          rw [Addr.add_lit] at this
          rw [this, ← hy, List.getD_eq_getElem?_getD, List.getElem?_eq_getElem (by omega)]
          rfl
      have hxy := bits_xor8 x y
      obtain ⟨Z, hZ⟩ : ∃ Z, (x.toNat ^^^ y.toNat) / 2 ^ (8 - r) = Z := ⟨_, rfl⟩
      rw [hZ] at HF
      have HZ : Hid (((x.toNat ^^^ y.toNat : Nat) : Int) / 2 ^ (8 - r) = (Z : Int)) := by
        show _ = _
        rw [← hZ]
        simp
      have HZ2 : Hid (((Z : Int) == 0) = decide (Z = 0)) := by
        show _ = _
        rw [Bool.eq_iff_iff]
        simp
      clear hZ
      have hr8 : IntKind.i64.wrap (8 - (r : Int)) = ((8 - r : Nat) : Int) := by rw [IntKind.wrap_i64]; have := HQ.out.2.1; omega
      have hrn : ((r : Int) == 0) = false := by rw [beq_eq_false_iff_ne]; omega
      clear heq HA hr0 hx hy
      go_upto_region 5 with fail
      refine wp_region_held_drew (S := fun W => w1.grownBy W none) (by kernel_rfl) (grown_trans HK.out (grown_drewN w2 1 none)) (fun hHeld => ?_)
      refine wpAnyH_take (i := 0) (v := .int .i64 (r : Int)) rfl (by kernel_rfl) (by kernel_rfl) (by kernel_rfl) (fun _ _ _ h => h) (Or.inl ⟨by rfl, fun W hW => ?_⟩) hHeld ?_
      · clear hW
        go_simp
      try simp only [Act.put, List.getElem_toArray, List.getElem_cons_zero, List.setIfInBounds_toArray, List.set_cons_zero, List.set_cons_succ]
      refine wpAnyH_take (i := 1) (v := .bool false) rfl (by kernel_rfl) (by kernel_rfl) (by kernel_rfl) (fun _ _ _ h => h) (Or.inl ⟨by rfl, fun W hW => ?_⟩) hHeld ?_
      · clear hW
        go_simp
      try simp only [Act.put, List.getElem_toArray, List.getElem_cons_zero, List.getElem_cons_succ, List.setIfInBounds_toArray, List.set_cons_zero, List.set_cons_succ]
      refine wpAnyH_take (i := 2) (v := .bool false) rfl (by kernel_rfl) (by kernel_rfl) (by kernel_rfl) (fun _ _ _ h => h) (Or.inl ⟨by rfl, fun W hW => ?_⟩) hHeld ?_
      · clear hW
        go_simp
      try simp only [Act.put, List.getElem_toArray, List.getElem_cons_zero, List.getElem_cons_succ, List.setIfInBounds_toArray, List.set_cons_zero, List.set_cons_succ]
      refine wpAnyH_take (i := 3) (v := .slice (some ⟨b, O, none⟩) L cp) rfl (by kernel_rfl) (by kernel_rfl) (by kernel_rfl) (fun _ _ _ h => h) (Or.inl ⟨by rfl, fun W hW => ?_⟩) hHeld ?_
      · clear hW
        go_simp
      try simp only [Act.put, List.getElem_toArray, List.getElem_cons_zero, List.getElem_cons_succ, List.setIfInBounds_toArray, List.set_cons_zero, List.set_cons_succ]
      refine wpAnyH_take (i := 4) (v := .int .i64 (q : Int)) rfl (by kernel_rfl) (by kernel_rfl) (by kernel_rfl) (fun _ _ _ h => h) (Or.inl ⟨by rfl, fun W hW => ?_⟩) hHeld ?_
      · clear hW
        go_simp
      try simp only [Act.put, List.getElem_toArray, List.getElem_cons_zero, List.getElem_cons_succ, List.setIfInBounds_toArray, List.set_cons_zero, List.set_cons_succ]
      refine wpAnyH_take (i := 5) (v := .pointer (some ⟨b, O + q, none⟩)) rfl (by kernel_rfl) (by kernel_rfl) (by kernel_rfl) (fun _ _ _ h => h) (Or.inl ⟨by rfl, fun W hW => ?_⟩) hHeld ?_
      · clear hW
        go_simp
      try simp only [Act.put, List.getElem_toArray, List.getElem_cons_zero, List.getElem_cons_succ, List.setIfInBounds_toArray, List.set_cons_zero, List.set_cons_succ]
      refine wpAnyH_take (i := 6) (v := .int .u8 (x.toNat : Int)) rfl (by kernel_rfl) (by kernel_rfl) (by kernel_rfl) (fun _ _ _ h => h) (Or.inl ⟨by rfl, fun W hW => ?_⟩) hHeld ?_
      · have c6 := HX.out.1 W hW
        clear hW
        go_simp
      try simp only [Act.put, List.getElem_toArray, List.getElem_cons_zero, List.getElem_cons_succ, List.setIfInBounds_toArray, List.set_cons_zero, List.set_cons_succ]
      refine wpAnyH_take (i := 7) (v := .slice (some ⟨db, dof, none⟩) L cd) rfl (by kernel_rfl) (by kernel_rfl) (by kernel_rfl) (fun _ _ _ h => h) (Or.inl ⟨by rfl, fun W hW => ?_⟩) hHeld ?_
      · clear hW
        go_simp
      try simp only [Act.put, List.getElem_toArray, List.getElem_cons_zero, List.getElem_cons_succ, List.setIfInBounds_toArray, List.set_cons_zero, List.set_cons_succ]
      refine wpAnyH_take (i := 8) (v := .int .i64 (q : Int)) rfl (by kernel_rfl) (by kernel_rfl) (by kernel_rfl) (fun _ _ _ h => h) (Or.inl ⟨by rfl, fun W hW => ?_⟩) hHeld ?_
      · clear hW
        go_simp
      try simp only [Act.put, List.getElem_toArray, List.getElem_cons_zero, List.getElem_cons_succ, List.setIfInBounds_toArray, List.set_cons_zero, List.set_cons_succ]
      refine wpAnyH_take (i := 9) (v := .pointer (some ⟨db, dof + q, none⟩)) rfl (by kernel_rfl) (by kernel_rfl) (by kernel_rfl) (fun _ _ _ h => h) (Or.inl ⟨by rfl, fun W hW => ?_⟩) hHeld ?_
      · clear hW
        go_simp
      try simp only [Act.put, List.getElem_toArray, List.getElem_cons_zero, List.getElem_cons_succ, List.setIfInBounds_toArray, List.set_cons_zero, List.set_cons_succ]
      refine wpAnyH_take (i := 10) (v := .int .u8 (y.toNat : Int)) rfl (by kernel_rfl) (by kernel_rfl) (by kernel_rfl) (fun _ _ _ h => h) (Or.inl ⟨by rfl, fun W hW => ?_⟩) hHeld ?_
      · have c7 := HX.out.2 W hW
        clear hW
        go_simp
      try simp only [Act.put, List.getElem_toArray, List.getElem_cons_zero, List.getElem_cons_succ, List.setIfInBounds_toArray, List.set_cons_zero, List.set_cons_succ]
      refine wpAnyH_take (i := 11) (v := .int .u8 ((x.toNat ^^^ y.toNat : Nat) : Int)) rfl (by kernel_rfl) (by kernel_rfl) (by kernel_rfl) (fun _ _ _ h => h) (Or.inl ⟨by rfl, fun W hW => ?_⟩) hHeld ?_
      · clear hW
        go_simp
      try simp only [Act.put, List.getElem_toArray, List.getElem_cons_zero, List.getElem_cons_succ, List.setIfInBounds_toArray, List.set_cons_zero, List.set_cons_succ]
      refine wpAnyH_take (i := 12) (v := .int .i64 (r : Int)) rfl (by kernel_rfl) (by kernel_rfl) (by kernel_rfl) (fun _ _ _ h => h) (Or.inl ⟨by rfl, fun W hW => ?_⟩) hHeld ?_
      · clear hW
        go_simp
      try simp only [Act.put, List.getElem_toArray, List.getElem_cons_zero, List.getElem_cons_succ, List.setIfInBounds_toArray, List.set_cons_zero, List.set_cons_succ]
      refine wpAnyH_take (i := 13) (v := .int .i64 ((8 - r : Nat) : Int)) rfl (by kernel_rfl) (by kernel_rfl) (by kernel_rfl) (fun _ _ _ h => h) (Or.inl ⟨by rfl, fun W hW => ?_⟩) hHeld ?_
      · clear hW
        go_simp
      try simp only [Act.put, List.getElem_toArray, List.getElem_cons_zero, List.getElem_cons_succ, List.setIfInBounds_toArray, List.set_cons_zero, List.set_cons_succ]
      refine wpAnyH_take (i := 14) (v := .int .u8 (Z : Int)) rfl (by kernel_rfl) (by kernel_rfl) (by kernel_rfl) (fun _ _ _ h => h) (Or.inl ⟨by rfl, fun W hW => ?_⟩) hHeld ?_
      · have c8 := HZ.out
        clear hW
        go_simp
      try simp only [Act.put, List.getElem_toArray, List.getElem_cons_zero, List.getElem_cons_succ, List.setIfInBounds_toArray, List.set_cons_zero, List.set_cons_succ]
      refine wpAnyH_take (i := 15) (v := .bool (decide (Z = 0))) rfl (by kernel_rfl) (by kernel_rfl) (by kernel_rfl) (fun _ _ _ h => h) (Or.inl ⟨by rfl, fun W hW => ?_⟩) hHeld ?_
      · have c9 := HZ2.out
        clear hW
        go_simp
      try simp only [Act.put, List.getElem_toArray, List.getElem_cons_zero, List.getElem_cons_succ, List.setIfInBounds_toArray, List.set_cons_zero, List.set_cons_succ]
      refine wpAnyH_take (i := 16) (v := .bool (decide (Z = 0))) rfl (by kernel_rfl) (by kernel_rfl) (by kernel_rfl) (fun _ _ _ h => h) (Or.inl ⟨by rfl, fun W hW => ?_⟩) hHeld ?_
      · clear hW
        go_simp
      try simp only [Act.put, List.getElem_toArray, List.getElem_cons_zero, List.getElem_cons_succ, List.setIfInBounds_toArray, List.set_cons_zero, List.set_cons_succ]
      refine wpAnyH_take (i := 17) (v := .bool (decide (Z = 0))) rfl (by kernel_rfl) (by kernel_rfl) (by kernel_rfl) (fun _ _ _ h => h) (Or.inl ⟨by rfl, fun W hW => ?_⟩) hHeld ?_
      · clear hW
        go_simp
      try simp only [Act.put, List.getElem_toArray, List.getElem_cons_zero, List.getElem_cons_succ, List.setIfInBounds_toArray, List.set_cons_zero, List.set_cons_succ]
      refine wpAnyH_done (by kernel_rfl) ?_ _

      have G := grown_trans HG.out hHeld
      clear hHeld
      go_wp2
      go_ret
      exact ⟨ret_bool HF.out.symm, G⟩

end Go.Proofs.YtnojpepjloceoaaGreat
