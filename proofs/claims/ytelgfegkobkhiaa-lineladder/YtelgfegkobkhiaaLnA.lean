/-
  Package line as landed: room, tooFar, detour.
-/
import Derived.Test.YtelgfegkobkhiaaLotP8
import Derived.Test.YtelgfegkobkhiaaLotP16
namespace Go.Proofs.Ytelgfegkobkhiaa
open Go.RowKit
set_option maxRecDepth 100000

/-- A literal of ints is a row of its own. -/
theorem zown_lit (w : World) (bs : List Int) (hb : bs.length ≤ maxLen) : ZOwns (w.alloc (.cells (bs.map iv).toArray 3)) w.heap.size (.slice (some ⟨w.heap.size, 0, none⟩) bs.length bs.length) bs :=
  ⟨by simp, .inr ⟨w.heap.size, bs.length, (bs.map iv).toArray, rfl, Nat.le_refl _, (heap_alloc_new w _), Nat.le_refl _, hb, by simp, by simp only [Nat.mul_one]; exact List.take_of_length_le (by simp)⟩⟩

set_option maxHeartbeats 1000000 in
theorem lroom_any (b : Bk) (a : Option Addr) (ca : Nat) (w : World) (hl : b.code.length ≤ 1000000) : Calls Try.prog 36 #[bkV b a ca] w fun e w' => e = .returned (.int .i64 (roomV b : Int)) ∧ w.grownBy w' none := by
  obtain ⟨R, hR⟩ : ∃ R, roomV b = R := ⟨_, rfl⟩
  rw [hR]
  have HR : Hid (b.code.length + (if b.en = 2 then 0 else 1) = R) := hR
  clear hR
  obtain ⟨code, en, last, yes, no⟩ := b
  obtain ⟨c, t, f, k⟩ := last
  simp only [bkV, bkA]
  have V0 := GVt.alloc w 47 #[.slice a code.length ca, .int .i64 en, .int .u16 (c.toNat : Int), .int .u8 (t.toNat : Int), .int .u8 (f.toNat : Int), .int .u32 (k.toNat : Int), .int .i64 yes, .int .i64 no]
  have G0 : w.grownBy (w.alloc (.cells #[.slice a code.length ca, .int .i64 en, .int .u16 (c.toNat : Int), .int .u8 (t.toNat : Int), .int .u8 (f.toNat : Int), .int .u32 (k.toNat : Int), .int .i64 yes, .int .i64 no] 47)) none := World.grownBy_alloc _ _ _
  go_enter Try.func36, Try.ntmps36
  go_upto_region 1 with fail
  generalize w.alloc (.cells #[.slice a code.length ca, .int .i64 en, .int .u16 (c.toNat : Int), .int .u8 (t.toNat : Int), .int .u8 (f.toNat : Int), .int .u32 (k.toNat : Int), .int .i64 yes, .int .i64 no] 47) = w1 at *
  generalize w.heap.size = A at *
  have a0 : w1.cell? ⟨A, 0, none⟩ = some (.slice a code.length ca) := V0.cell 0
  have a1 : w1.cell? ⟨A, 1, none⟩ = some (.int .i64 en) := V0.cell 1
  clear V0
  simp only at hl HR
  have e1 : IntKind.i64.wrap ((code.length : Int) + 1) = (code.length : Int) + 1 := by rw [IntKind.wrap_i64]; omega
  by_cases h2 : en = 2
  · subst h2
    go_wp2
    go_ret
    exact ⟨ret_int (by have := HR.out; simp only [if_true] at this; omega), G0⟩
  · have h2' : (en == 2) = false := by rw [beq_eq_false_iff_ne]; exact h2
    go_wp2
    go_ret
    exact ⟨ret_int (by have := HR.out; rw [if_neg h2] at this; omega), G0⟩

theorem zown_up {w : World} {base base' : Nat} {v : Value} {bs : List Int} (hb : base ≤ base') (h : ZOwns w base' v bs) : ZOwns w base v bs := by
  refine ⟨h.1, ?_⟩
  rcases h.2 with q | ⟨g, cap, cur, r1, r2, r3⟩
  · exact .inl q
  · exact .inr ⟨g, cap, cur, r1, Nat.le_trans hb r2, r3⟩

set_option maxHeartbeats 2000000 in
theorem tooFar_any (b : Bk) (a : Option Addr) (ca : Nat) (y n : Int) (base : Nat) (w : World) (hb : base ≤ w.heap.size) : Calls Try.prog 49 #[bkV b a ca, .int .i64 y, .int .i64 n] w fun e w' => ∃ v, e = .returned v ∧ ZOwns w' base v (farV b y n) ∧ w.grownBy w' none := by
  obtain ⟨D, hD⟩ : ∃ D, farV b y n = D := ⟨_, rfl⟩
  rw [hD]
  have HD : Hid (farV b y n = D) := hD
  clear hD
  obtain ⟨code, en, last, yes, no⟩ := b
  obtain ⟨c, t, f, k⟩ := last
  simp only [bkV, bkA]
  have V0 := GVt.alloc w 47 #[.slice a code.length ca, .int .i64 en, .int .u16 (c.toNat : Int), .int .u8 (t.toNat : Int), .int .u8 (f.toNat : Int), .int .u32 (k.toNat : Int), .int .i64 yes, .int .i64 no]
  have G0 : w.grownBy (w.alloc (.cells #[.slice a code.length ca, .int .i64 en, .int .u16 (c.toNat : Int), .int .u8 (t.toNat : Int), .int .u8 (f.toNat : Int), .int .u32 (k.toNat : Int), .int .i64 yes, .int .i64 no] 47)) none := World.grownBy_alloc _ _ _
  have hA : base ≤ (w.alloc (.cells #[.slice a code.length ca, .int .i64 en, .int .u16 (c.toNat : Int), .int .u8 (t.toNat : Int), .int .u8 (f.toNat : Int), .int .u32 (k.toNat : Int), .int .i64 yes, .int .i64 no] 47)).heap.size := Nat.le_trans hb G0.size
  go_enter Try.func49, Try.ntmps49
  go_upto_region 1 with fail
  generalize w.alloc (.cells #[.slice a code.length ca, .int .i64 en, .int .u16 (c.toNat : Int), .int .u8 (t.toNat : Int), .int .u8 (f.toNat : Int), .int .u32 (k.toNat : Int), .int .i64 yes, .int .i64 no] 47) = w1 at *
  generalize w.heap.size = A at *
  have a3 : w1.cell? ⟨A, 6, none⟩ = some (.int .i64 yes) := V0.cell 6
  have a4 : w1.cell? ⟨A, 7, none⟩ = some (.int .i64 no) := V0.cell 7
  clear V0
  have HL1 : Hid (∀ z : Int, ZOwns (w1.alloc (.cells #[.int .i64 z] 3)) base (.slice (some ⟨w1.heap.size, 0, none⟩) 1 1) [z]) := fun z => zown_up hA (zown_lit w1 [z] (by simp [maxLen]))
  have HL2 : Hid (∀ z z' : Int, ZOwns (w1.alloc (.cells #[.int .i64 z, .int .i64 z'] 3)) base (.slice (some ⟨w1.heap.size, 0, none⟩) 2 2) [z, z']) := fun z z' => zown_up hA (zown_lit w1 [z, z'] (by simp [maxLen]))
  by_cases hf : y ≤ 255 ∧ n ≤ 255
  · have HD0 : Hid ([] = D) := by have := HD.out; rw [farV, if_pos hf] at this; exact this
    obtain ⟨h1, h2⟩ := hf
    clear HD
    go_wp2
    all_goals
      go_ret
      exact ⟨_, rfl, HD0.out ▸ World.ownsRow_nil _ _ _ _, G0⟩
  · have hmx : ¬ (if y < n then n else y) ≤ 255 := by split <;> omega
    by_cases he : yes = no
    · subst he
      have HD0 : Hid ([yes] = D) := by have := HD.out; rw [farV, if_neg hf, if_pos rfl] at this; exact this
      clear HD hf
      go_wp2
      all_goals
        go_ret
        exact ⟨_, rfl, HD0.out ▸ HL1.out _, grown_trans G0 (World.grownBy_alloc _ _ _)⟩
    · have he' : (yes == no) = false := by rw [beq_eq_false_iff_ne]; exact he
      by_cases hy : y < 255
      · have HD0 : Hid ([no] = D) := by have := HD.out; rw [farV, if_neg hf, if_neg he, if_pos hy] at this; exact this
        clear HD hf he
        go_wp2
        all_goals
          go_ret
          exact ⟨_, rfl, HD0.out ▸ HL1.out _, grown_trans G0 (World.grownBy_alloc _ _ _)⟩
      · by_cases hn : n < 255
        · have HD0 : Hid ([yes] = D) := by have := HD.out; rw [farV, if_neg hf, if_neg he, if_neg hy, if_pos hn] at this; exact this
          clear HD hf he
          go_wp2
          all_goals
            go_ret
            exact ⟨_, rfl, HD0.out ▸ HL1.out _, grown_trans G0 (World.grownBy_alloc _ _ _)⟩
        · have HD0 : Hid ([yes, no] = D) := by have := HD.out; rw [farV, if_neg hf, if_neg he, if_neg hy, if_neg hn] at this; exact this
          clear HD hf he
          go_wp2
          all_goals
            go_ret
            exact ⟨_, rfl, HD0.out ▸ HL2.out _ _, grown_trans G0 (World.grownBy_alloc _ _ _)⟩

set_option maxHeartbeats 2000000 in
theorem detour_any (b : Bk) (a : Option Addr) (ca : Nat) (y n : Int) (base : Nat) (w : World) (hb : base ≤ w.heap.size) : Calls Try.prog 35 #[bkV b a ca, .int .i64 y, .int .i64 n] w fun e w' => ∃ v, e = .returned v ∧ ZOwns w' base v (detV b y n) ∧ w.grownBy w' none := by
  have HF : Hid (∀ W : World, base ≤ W.heap.size → Calls Try.prog 49 #[bkV b a ca, .int .i64 y, .int .i64 n] W fun e w' => ∃ v, e = .returned v ∧ ZOwns w' base v (farV b y n) ∧ W.grownBy w' none) := fun W h => tooFar_any b a ca y n base W h
  obtain ⟨D, hD⟩ : ∃ D, detV b y n = D := ⟨_, rfl⟩
  rw [hD]
  have HD : Hid (detV b y n = D) := hD
  have HSZ : Hid ((Try.prog.info? 47).map (·.size) = some (bkA b a ca).size) := (by kernel_rfl : (Try.prog.info? 47).map (·.size) = some 8)
  clear hD
  obtain ⟨code, en, last, yes, no⟩ := b
  obtain ⟨c, t, f, k⟩ := last
  simp only [bkV, bkA]
  have V0 := GVt.alloc w 47 #[.slice a code.length ca, .int .i64 en, .int .u16 (c.toNat : Int), .int .u8 (t.toNat : Int), .int .u8 (f.toNat : Int), .int .u32 (k.toNat : Int), .int .i64 yes, .int .i64 no]
  have G0 : w.grownBy (w.alloc (.cells #[.slice a code.length ca, .int .i64 en, .int .u16 (c.toNat : Int), .int .u8 (t.toNat : Int), .int .u8 (f.toNat : Int), .int .u32 (k.toNat : Int), .int .i64 yes, .int .i64 no] 47)) none := World.grownBy_alloc _ _ _
  have hA : base ≤ (w.alloc (.cells #[.slice a code.length ca, .int .i64 en, .int .u16 (c.toNat : Int), .int .u8 (t.toNat : Int), .int .u8 (f.toNat : Int), .int .u32 (k.toNat : Int), .int .i64 yes, .int .i64 no] 47)).heap.size := Nat.le_trans hb G0.size
  go_enter Try.func35, Try.ntmps35
  go_upto_region 1 with fail
  generalize w.alloc (.cells #[.slice a code.length ca, .int .i64 en, .int .u16 (c.toNat : Int), .int .u8 (t.toNat : Int), .int .u8 (f.toNat : Int), .int .u32 (k.toNat : Int), .int .i64 yes, .int .i64 no] 47) = w1 at *
  generalize w.heap.size = A at *
  have a1 : w1.cell? ⟨A, 1, none⟩ = some (.int .i64 en) := V0.cell 1
  have a3 : w1.cell? ⟨A, 6, none⟩ = some (.int .i64 yes) := V0.cell 6
  have HV : Hid (GVt w1 A 47 #[.slice a code.length ca, .int .i64 en, .int .u16 (c.toNat : Int), .int .u8 (t.toNat : Int), .int .u8 (f.toNat : Int), .int .u32 (k.toNat : Int), .int .i64 yes, .int .i64 no]) := V0
  clear V0
  have HL1 : Hid (∀ z : Int, ZOwns (w1.alloc (.cells #[.int .i64 z] 3)) base (.slice (some ⟨w1.heap.size, 0, none⟩) 1 1) [z]) := fun z => zown_up hA (zown_lit w1 [z] (by simp [maxLen]))
  have HL2 : Hid (∀ z z' : Int, ZOwns (w1.alloc (.cells #[.int .i64 z, .int .i64 z'] 3)) base (.slice (some ⟨w1.heap.size, 0, none⟩) 2 2) [z, z']) := fun z z' => zown_up hA (zown_lit w1 [z, z'] (by simp [maxLen]))
  by_cases h3 : en = 3
  · subst h3
    have HD0 : Hid (farV ⟨code, 3, ⟨c, t, f, k⟩, yes, no⟩ y n = D) := by have := HD.out; rw [detV, if_pos rfl] at this; exact this
    clear HD
    go_wp2_with (first | refine wpList_load_row rfl 47 (.tmp 3) rfl A rfl 47 _ (0, 0) _ HV.out Try.underlying47 rfl HSZ.out ?_ | fail)
    refine (HF.out _ hA).mono ?_
    rintro e w2 ⟨v, rfl, O, K⟩
    go_wp2
    go_ret
    exact ⟨_, rfl, HD0.out ▸ O, grown_trans G0 K⟩
  · have h3' : (en == 3) = false := by rw [beq_eq_false_iff_ne]; exact h3
    by_cases h2 : en = 2 ∧ 0 < y
    · have HD0 : Hid ([yes] = D) := by have := HD.out; rw [detV, if_neg h3, if_pos h2] at this; exact this
      obtain ⟨rfl, hy⟩ := h2
      clear HD
      go_wp2
      go_ret
      exact ⟨_, rfl, HD0.out ▸ HL1.out _, grown_trans G0 (World.grownBy_alloc _ _ _)⟩
    · have HD0 : Hid ([] = D) := by have := HD.out; rw [detV, if_neg h3, if_neg h2] at this; exact this
      clear HD
      by_cases h2' : en = 2
      · subst h2'
        have hy : ¬ 0 < y := fun h => h2 ⟨rfl, h⟩
        clear h2
        go_wp2
        go_ret
        exact ⟨_, rfl, HD0.out ▸ World.ownsRow_nil _ _ _ _, G0⟩
      · have h2b : (en == 2) = false := by rw [beq_eq_false_iff_ne]; exact h2'
        clear h2
        go_wp2
        go_ret
        exact ⟨_, rfl, HD0.out ▸ World.ownsRow_nil _ _ _ _, G0⟩

end Go.Proofs.Ytelgfegkobkhiaa
