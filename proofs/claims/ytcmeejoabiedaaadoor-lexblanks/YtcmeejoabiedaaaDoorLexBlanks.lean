/-
  For every string and every list of bytes (of such size as the form itself says of each argument) riddlelaw10.LexBlanks returns true and leaves what was there as it was: no condition of ours.
-/
import Derived.Test.YtcmeejoabiedaaaDoorLexM
import Derived.Test.YtcmeejoabiedaaaDoorOpen
import Derived.Test.YtcmeejoabiedaaaDoorLkL
import Derived.Deep.DeepCutAuto
import Derived.BigQuiet
namespace Go.Proofs.YtcmeejoabiedaaaDoor
open Go.ChangeShapes Go.WideShapes Go.ChangeAt Go.RowKit
open Go.ChangeMaps (open_string shut_string)
set_option maxRecDepth 100000
namespace lexBlanks

theorem infoI3 : (Tryd.prog.info? 3).map (fun i => (i.zero, i.size, i.bytes)) = some (some (.int .i64 0), 1, 8) := by kernel_rfl

/-- The places, as they are told. -/
def plV (l : List (List UInt8 × Tk)) : List Value := (layP 0 l).map fun t => Value.int .i64 (t.pos : Int)
theorem plV_len (l : List (List UInt8 × Tk)) : (plV l).length = l.length := by rw [plV, List.length_map, layP_len]
theorem plV_app (l : List (List UInt8 × Tk)) (b : List UInt8) (t : Tk) : plV (l ++ [(b, t)]) = plV l ++ [.int .i64 (((layT l).length + b.length : Nat) : Int)] := by
  unfold plV
  rw [layP_app, List.map_append, Nat.zero_add]
  rfl
theorem sl_cat (a b : ByteArray) : sl (a ++ b) = sl a ++ sl b := by simp [sl]
/-- A blank out of the four. -/
theorem blank4 (r : Nat) (hr : r < 4) : ∃ c, sl ((⟨#[9, 10, 13, 32]⟩ : ByteArray).extract r (r + 1)) = [c] ∧ blankB c = true := by
  have hs : r = 0 ∨ r = 1 ∨ r = 2 ∨ r = 3 := by omega
  rw [sl_extract]
  rcases hs with rfl | rfl | rfl | rfl
  · exact ⟨9, rfl, by decide⟩
  · exact ⟨10, rfl, by decide⟩
  · exact ⟨13, rfl, by decide⟩
  · exact ⟨32, rfl, by decide⟩

set_option maxRecDepth 100000 in
set_option maxHeartbeats 16000000 in
theorem walk (s : ByteArray) (a : Option Addr) (ca : Nat) (xs : List UInt8) (w : World) (hs : s.size ≤ 140737488351232) (hc : Cells w a xs) (_ : a = none → ca = 0) (hl : xs.length ≤ 140737488351232) (T : Tab w) :
    Calls Tryd.prog 3 #[.string s, .slice a xs.length ca] w fun e w' => e = .returned (.bool true) ∧ w.grownBy w' none := by
  have HT : Hid (Tab w) := T
  clear T
  have HCX : Hid (Cells w a xs) := hc
  clear hc
  have C0 := lex_any s (by omega) w HT.out
  cases hx : lexV (sl s) with
  | error x =>
    rw [hx] at C0
    simp only [lexP, lexE, lexT] at C0
    have hz := lexE_err hx
    clear hx
    generalize x.2 = er at *
    go_enter Tryd.func3, Tryd.ntmps3
    go_wp2_with fail
    refine C0.mono ?_
    rintro e w1 ⟨v1, rfl, O1, K1⟩
    clear C0 O1
    go_wp2_with fail
    refine (awake10_any _ (HT.out.grown (by assumption))).mono ?_
    rintro e w2 ⟨rfl, K2⟩
    go_wp2
    go_ret
    exact ⟨rfl, grown_trans K1 K2⟩
  | ok ts =>
    rw [hx] at C0
    simp only [lexP, lexE, lexT] at C0
    have HX : Hid (lexV (sl s) = .ok ts) := hx
    clear hx
    by_cases h5 : 5000 < s.size
    · have h5' : (5000 : Int) < (s.size : Int) := by omega
      go_enter Tryd.func3, Tryd.ntmps3
      go_wp2_with fail
      refine C0.mono ?_
      rintro e w1 ⟨v1, rfl, O1, K1⟩
      clear C0 O1
      go_wp2_with fail
      refine (awake10_any _ (HT.out.grown (by assumption))).mono ?_
      rintro e w2 ⟨rfl, K2⟩
      go_wp2
      go_ret
      exact ⟨rfl, grown_trans K1 K2⟩
    have h5' : ¬ (5000 : Int) < (s.size : Int) := by omega
    have hts0 : 0 < ts.length := by
      obtain ⟨-, us, e, -⟩ := lexV_toks HX.out
      rw [e]; simp
    have htsl : ts.length ≤ 5001 := by
      have := HX.out
      unfold lexV at this
      split at this
      · cases this
      · have := lexR_few _ 0 (sl s) ts (Nat.le_refl _) this
        rw [sl_len] at this
        omega
    obtain ⟨i0, hi, hz0, hz1, hz2⟩ := info_parts infoI3
    go_enter Tryd.func3, Tryd.ntmps3
    go_wp2_with fail
    refine C0.mono ?_
    rintro e w1 ⟨v1, rfl, O1, K1⟩
    clear C0
    obtain ⟨g, cap, rfl, -⟩ := O1.toks hts0
    have HO : Hid (TOwns w1 w.heap.size (.slice (some ⟨g, 0, none⟩) ts.length cap) ts) := O1
    have HGL : Hid (g < w1.heap.size) := (World.ownsRow.lt O1 g rfl).2
    have HK1 : Hid (w.grownBy w1 none) := K1
    clear O1 K1
    have HTK0 : Hid (∀ i (h : i < ts.length), w1.cell? ⟨g, i * 4, none⟩ = some (.int .i64 (ts[i].kind : Int)) ∧ w1.cell? ⟨g, i * 4 + 1, none⟩ = some (.int .i64 (ts[i].pos : Int)) ∧ w1.cell? ⟨g, i * 4 + 2, none⟩ = some (str ts[i].text) ∧ w1.cell? ⟨g, i * 4 + 3, none⟩ = some (.int .u32 (ts[i].num : Int))) := fun i h => by
      obtain ⟨g', cap', hv, hcc⟩ := TOwns.toks HO.out hts0
      simp only [Value.slice.injEq, Option.some.injEq, Addr.mk.injEq, and_true, true_and] at hv
      obtain ⟨rfl, rfl⟩ := hv
      exact hcc i h
    obtain ⟨L, hLL⟩ : ∃ L, ts.length = L := ⟨_, rfl⟩
    have HLL : Hid (ts.length = L) := hLL
    have HTK : Hid (∀ i (_ : i < L) (h : i < ts.length), w1.cell? ⟨g, i * 4, none⟩ = some (.int .i64 (ts[i].kind : Int)) ∧ w1.cell? ⟨g, i * 4 + 1, none⟩ = some (.int .i64 (ts[i].pos : Int)) ∧ w1.cell? ⟨g, i * 4 + 2, none⟩ = some (str ts[i].text) ∧ w1.cell? ⟨g, i * 4 + 3, none⟩ = some (.int .u32 (ts[i].num : Int))) := fun i _ h => HTK0.out i h
    rw [hLL] at hts0 htsl ⊢
    clear hLL HTK0 HO
    go_upto_region 8 with fail
    go_loopw [9, 10, 11] (fun u pv x wr => ∃ (i : Nat) (l : List (List UInt8 × Tk)) (U : ByteArray), i ≤ L ∧ x = .int .i64 i ∧ u = .string U ∧ Hid (LB ts i l ∧ sl U = layT l) ∧ Hid (wr.ownsRow w1.heap.size 3 1 pv i (plV l) ∧ w1.grownBy wr none)) (fun _ _ x _ => L - (intOf x).toNat)
    case atStart => exact ⟨0, [], ⟨#[]⟩, Nat.zero_le _, rfl, rfl, ⟨LB.nil _, rfl⟩, World.ownsRow_nil _ _ _ _, World.grownBy.refl _ _⟩
    case round =>
      obtain ⟨i, l, U, hil, rfl, rfl, HL, HP⟩ := hrel
      have z0 : (0 : Int) ≤ (i : Int) := by omega
      by_cases hlt : i < L
      · have hli : (i : Int) < (L : Int) := by omega
        have hw1 : IntKind.i64.wrap ((i : Int) + 1) = (i : Int) + 1 := by rw [IntKind.wrap_i64]; omega
        have HW : Hid (w.grownBy wr none) := grown_trans HK1.out HP.out.2
        go_upto_if 42 with fail
        go_cut [12, 42] from 43 to 52 (fun kv _ wx => ∃ k : Nat, 1 ≤ k ∧ k ≤ 3 ∧ kv = .int .i64 k ∧ wx = wr)
        case first =>
          by_cases hx0 : 0 < xs.length
          · have hx0' : (0 : Int) < (xs.length : Int) := by omega
            obtain ⟨m, hm⟩ : ∃ m, i % xs.length = m := ⟨_, rfl⟩
            have hml : m < xs.length := by rw [← hm]; exact Nat.mod_lt _ hx0
            have hmod : (i : Int).tmod (xs.length : Int) = (m : Int) := by rw [Int.tmod_eq_emod_of_nonneg (by omega)]; omega
            have hml' : (m : Int) < (xs.length : Int) := by omega
            have hm0 : (0 : Int) ≤ (m : Int) := by omega
            have hxz : ((xs.length : Int) == 0) = false := by rw [beq_eq_false_iff_ne]; omega
            obtain ⟨bb, o, rfl, hcc⟩ := (HCX.out.keptNone HW.out).addr hml
            have cm := hcc m hml
            generalize xs[m] = c at *
            have hcl := c.toNat_lt
            have hmod3 : (c.toNat : Int).tmod 3 = ((c.toNat % 3 : Nat) : Int) := by rw [Int.tmod_eq_emod_of_nonneg (by omega)]; omega
            have hk3 : c.toNat % 3 < 3 := Nat.mod_lt _ (by decide)
            generalize c.toNat % 3 = k0 at *
            have hw2 : IntKind.i64.wrap (1 + (k0 : Int)) = 1 + (k0 : Int) := by rw [IntKind.wrap_i64]; omega
            have HKK : Hid (1 ≤ 1 + k0 ∧ 1 + k0 ≤ 3) := ⟨by omega, by omega⟩
            clear hcc hm HW HL HP
            go_wp2
            go_meet
            exact ⟨1 + k0, HKK.out.1, HKK.out.2, by go_num, rfl⟩
          · have hx0' : ¬ (0 : Int) < (xs.length : Int) := by omega
            go_wp2
            go_meet
            exact ⟨1, by omega, by omega, rfl, rfl⟩
        case rest =>
          obtain ⟨k, hk1, hk3, rfl, rfl⟩ := hcut
          go_wp2
          go_loopw [9, 13] (fun u x wx => ∃ (j : Nat) (b : List UInt8) (U2 : ByteArray), j ≤ k ∧ x = .int .i64 j ∧ u = .string U2 ∧ Hid (b.length = j ∧ (∀ c ∈ b, blankB c = true) ∧ sl U2 = layT l ++ b) ∧ wx = wc) (fun _ x _ => k - (intOf x).toNat)
          case atStart => exact ⟨0, [], U, Nat.zero_le _, rfl, rfl, ⟨rfl, (fun _ h => by cases h), by rw [List.append_nil]; exact HL.out.2⟩, rfl⟩
          case round =>
            obtain ⟨j, b, U2, hj, rfl, rfl, HB, rfl⟩ := hrel
            have y0 : (0 : Int) ≤ (j : Int) := by omega
            by_cases hjk : j < k
            · have hjki : (j : Int) < (k : Int) := by omega
              obtain ⟨m, hm⟩ : ∃ m, j * k = m := ⟨_, rfl⟩
              have hm9 : m ≤ 9 := by rw [← hm]; exact Nat.mul_le_mul (by omega : j ≤ 3) hk3
              have hjm : (j : Int) * (k : Int) = (m : Int) := by rw [← hm]; simp
              have hv1 : IntKind.i64.wrap ((j : Int) * (k : Int)) = (m : Int) := by rw [hjm, IntKind.wrap_i64]; omega
              have hv2 : IntKind.i64.wrap ((i : Int) + (m : Int)) = ((i + m : Nat) : Int) := by rw [IntKind.wrap_i64]; omega
              have hv5 : IntKind.i64.wrap ((j : Int) + 1) = (j : Int) + 1 := by rw [IntKind.wrap_i64]; omega
              obtain ⟨c, hc1, hc2⟩ := blank4 ((i + m) % 4) (Nat.mod_lt _ (by decide))
              have hsz := HL.out.1.size (by rw [HLL.out]; omega) HX.out
              rw [sl_len] at hsz
              have hUb : U2.size ≤ 30000 := by rw [← sl_len, HB.out.2.2, List.length_append, HB.out.1]; omega
              have hnb : ¬ 9223372036854775807 < U2.size + (min ((i + m) % 4 + 1) 4 - (i + m) % 4) := by omega
              have HN : Hid ((b ++ [c]).length = j + 1 ∧ (∀ x ∈ b ++ [c], blankB x = true) ∧ sl (U2 ++ (⟨#[9, 10, 13, 32]⟩ : ByteArray).extract ((i + m) % 4) ((i + m) % 4 + 1)) = layT l ++ (b ++ [c])) := by
                refine ⟨by rw [List.length_append, HB.out.1]; rfl, fun x hx => ?_, by rw [sl_cat, HB.out.2.2, hc1, List.append_assoc]⟩
                rcases List.mem_append.1 hx with hx | hx
                · exact HB.out.2.1 x hx
                · simp only [List.mem_singleton] at hx
                  rw [hx]
                  exact hc2
              clear HB hc1 hc2 hm hjm hsz
              go_wp2
              go_roundw
              case rel => exact ⟨j + 1, b ++ [c], U2 ++ (⟨#[9, 10, 13, 32]⟩ : ByteArray).extract ((i + m) % 4) ((i + m) % 4 + 1), by omega, by go_num, rfl, HN, by first | rfl | trivial⟩
              case measure => simp [intOf]; omega
            · obtain rfl : j = k := by omega
              have hjki : ¬ (j : Int) < (j : Int) := by omega
              have hbn : b ≠ [] := by
                intro e
                have := HB.out.1
                rw [e] at this
                simp at this
                omega
              have htl : i < ts.length := by rw [HLL.out]; exact hlt
              have HLN := HL.out.1.push htl hbn HB.out.2.1 (by rw [HB.out.1]; exact hk3)
              have c2 := (HTK.out i hlt htl).2.2.1
              have HUs : Hid (sl U2 = layT l ++ b) := HB.out.2.2
              have hUz : U2.size = (layT l).length + b.length := by rw [← sl_len, HUs.out, List.length_append]
              have hsz := HL.out.1.size (by rw [HLL.out]; omega) HX.out
              have hsz2 := HLN.size (by rw [HLL.out]; omega) HX.out
              rw [sl_len] at hsz hsz2
              have hUb : U2.size ≤ 30000 := by rw [hUz, HB.out.1]; omega
              have HPN : Hid (plV (l ++ [(b, ts[i])]) = plV l ++ [.int .i64 (U2.size : Int)]) := by show plV _ = _; rw [plV_app, hUz]
              generalize ts[i] = tk at *
              obtain ⟨tq, tp, tt, tn⟩ := tk
              simp only at c2
              have HLN' : Hid (LB ts (i + 1) (l ++ [(b, ⟨tq, tp, tt, tn⟩)])) := HLN
              obtain ⟨TB, hTB⟩ : ∃ TB : ByteArray, ⟨tt.toArray⟩ = TB := ⟨_, rfl⟩
              have hst : str tt = .string TB := by rw [str, hTB]
              have HSL : Hid (sl (U2 ++ TB) = layT (l ++ [(b, ⟨tq, tp, tt, tn⟩)])) := by show sl _ = _; rw [sl_cat, HUs.out, layT_app, ← hTB]; rfl
              rw [hst] at c2
              have hcat : U2.size + TB.size ≤ 30000 := by
                have e := congrArg List.length HSL.out
                rw [sl_cat, List.length_append, sl_len, sl_len] at e
                omega
              have hnb : ¬ 9223372036854775807 < U2.size + TB.size := by omega
              have KA := World.grownBy_alloc wr (.cells #[.int .i64 (U2.size : Int)] 3) none
              have HO4 : Hid ((wr.alloc (.cells #[.int .i64 (U2.size : Int)] 3)).ownsRow w1.heap.size 3 1 u10 i (plV l) ∧ w1.grownBy (wr.alloc (.cells #[.int .i64 (U2.size : Int)] 3)) none) := ⟨owns_keptNone HP.out.1 KA, grown_trans HP.out.2 KA⟩
              have HCB : Hid (CV (wr.alloc (.cells #[.int .i64 (U2.size : Int)] 3)) (some ⟨wr.heap.size, 0, none⟩) [.int .i64 (U2.size : Int)]) := cv_lit wr _ _
              clear HB HL HP hbn HLN hUz hsz hsz2 hTB hst KA HUs HW
              go_wp2_with (at_builtin; refine wpList_append_cv rfl (.tmp 71) (.tmp 74) 28 rfl 3 i0 (.int .i64 0) 1 8 Tryd.underlying28 hi hz0 hz1 hz2 rfl (by decide) w1.heap.size u10 i (plV l) rfl ?r1 (some ⟨wr.heap.size, 0, none⟩) 1 1 [.int .i64 (U2.size : Int)] rfl rfl (by simp) ?r2 (by simp [Value.oneCell']) ?r3 ?r4 ?r5 ?r6)
              case r1 => exact HO4.out.1
              case r2 => exact HCB.out
              case r3 => unfold maxLen; omega
              case r4 => omega
              case r5 => have := HO4.out.2.size; simpa using this
              case r6 =>
                intro v5 w5 O5 K5
                have G5 := grown_trans_new HO4.out.2 K5 (fun x hx => (World.ownsRow.lt HO4.out.1 x hx).1)
                have c5 : w5.cell? ⟨g, i * 4 + 2, none⟩ = some (.string TB) := G5.cell c2 (by simp)
                have HO5 : Hid (w5.ownsRow w1.heap.size 3 1 v5 (i + 1) (plV (l ++ [(b, ⟨tq, tp, tt, tn⟩)])) ∧ w1.grownBy w5 none) := ⟨by rw [HPN.out]; exact O5, G5⟩
                clear HO4 HCB O5 K5 G5 c2
                go_wp2
                go_roundw
                case rel => exact ⟨i + 1, l ++ [(b, ⟨tq, tp, tt, tn⟩)], U2 ++ TB, by omega, by go_num, rfl, ⟨HLN'.out, HSL.out⟩, HO5⟩
                case measure => simp [intOf]; omega
      · obtain rfl : i = L := by omega
        have hli : ¬ (i : Int) < (i : Int) := by omega
        have hLB : LB ts ts.length l := by rw [HLL.out]; exact HL.out.1
        obtain ⟨hd1, hd2, hd3⟩ := hLB.done HX.out (by rw [sl_len]; omega)
        have hsz := hLB.size (Nat.le_refl _) HX.out
        rw [sl_len, HLL.out] at hsz
        rw [HLL.out] at hd2
        have hUs : U.size ≤ 30000 := by rw [← sl_len, HL.out.2]; omega
        have HW : Hid (w.grownBy wr none) := grown_trans HK1.out HP.out.2
        have CX := lex_any U (by omega) wr (HT.out.grown HW.out)
        rw [HL.out.2, hd1] at CX
        simp only [lexP, lexE, lexT] at CX
        obtain ⟨g3, cap3, hpv, hpc⟩ : ∃ g3 cap3, u10 = .slice (some ⟨g3, 0, none⟩) i cap3 ∧ ∀ q (hq : q < (layP 0 l).length), wr.cell? ⟨g3, q, none⟩ = some (.int .i64 ((layP 0 l)[q].pos : Int)) := by
          obtain ⟨g3, cap3, hv, -⟩ := owns_head HP.out.1 hts0
          obtain ⟨ao, cap4, hv2, CC, -⟩ := cv_of_row HP.out.1
          rw [hv] at hv2
          simp only [Value.slice.injEq, true_and] at hv2
          obtain ⟨rfl, rfl⟩ := hv2
          refine ⟨g3, cap3, hv, fun q hq => ?_⟩
          have hql : q < (plV l).length := by rw [plV_len, ← layP_len l 0]; exact hq
          obtain ⟨b3, o3, e3, hc3⟩ := CC.addr hql
          simp only [Option.some.injEq, Addr.mk.injEq] at e3
          obtain ⟨rfl, rfl, -⟩ := e3
          have := hc3 q hql
          simp only [plV, List.getElem_map, Nat.zero_add] at this
          exact this
        subst hpv
        have HPC : Hid (∀ q (hq : q < (layP 0 l).length), wr.cell? ⟨g3, q, none⟩ = some (.int .i64 ((layP 0 l)[q].pos : Int))) := hpc
        have HD3 : Hid (∀ q (h1 : q < (layP 0 l).length) (h2 : q < ts.length), (layP 0 l)[q].kind = ts[q].kind ∧ (layP 0 l)[q].text = ts[q].text ∧ (layP 0 l)[q].num = ts[q].num) := hd3
        have HW1 : Hid (w1.grownBy wr none) := HP.out.2
        clear hLB hd1 hd3 hsz hpc HL HP
        generalize layP 0 l = X at *
        have HXL : Hid (X.length = i) := hd2
        go_wp2_with fail
        refine CX.mono ?_
        rintro e w3 ⟨v3, rfl, O3, K3⟩
        obtain ⟨g4, cap4, rfl, hc4⟩ := O3.toks (by rw [hd2]; exact hts0)
        have HC4 : Hid (∀ q (hq : q < X.length), w3.cell? ⟨g4, q * 4, none⟩ = some (.int .i64 (X[q].kind : Int)) ∧ w3.cell? ⟨g4, q * 4 + 1, none⟩ = some (.int .i64 (X[q].pos : Int)) ∧ w3.cell? ⟨g4, q * 4 + 2, none⟩ = some (str X[q].text) ∧ w3.cell? ⟨g4, q * 4 + 3, none⟩ = some (.int .u32 (X[q].num : Int))) := hc4
        have HW3 : Hid (w.grownBy w3 none) := grown_trans HW.out K3
        have HW13 : Hid (w1.grownBy w3 none) := grown_trans HW1.out K3
        have HK3 : Hid (wr.grownBy w3 none) := K3
        have HG4 : Hid (g4 < w3.heap.size) := (World.ownsRow.lt O3 g4 rfl).2
        rw [hd2]
        clear CX O3 K3 hc4 HW HW1 hd2
        have hii : ((i : Int) != (i : Int)) = false := by simp
        go_upto_region 24 with fail
        go_loopw [18] (fun x wx => ∃ q : Nat, q ≤ i ∧ x = .int .i64 q ∧ Hid (w3.grownBy wx none)) (fun x _ => i - (intOf x).toNat)
        case atStart => exact ⟨0, Nat.zero_le _, rfl, World.grownBy.refl _ _⟩
        case round =>
          obtain ⟨q, hqi, rfl, HG⟩ := hrel
          have y0 : (0 : Int) ≤ (q : Int) := by omega
          by_cases hq : q < i
          · have hqi' : (q : Int) < (i : Int) := by omega
            have hqw : IntKind.i64.wrap ((q : Int) + 1) = (q : Int) + 1 := by rw [IntKind.wrap_i64]; omega
            have hqt : q < ts.length := by rw [HLL.out]; exact hq
            have hqx : q < X.length := by rw [HXL.out]; exact hq
            have G13 := grown_trans HW13.out HG.out
            obtain ⟨a0, a1, a2, a3⟩ := HTK.out q hq hqt
            have pc := HG.out.cell (HK3.out.cell (HPC.out q hqx) (by simp)) (by simp)
            obtain ⟨b0, b1, b2, b3⟩ := HC4.out q hqx
            obtain ⟨e0, e1, e2⟩ := HD3.out q hqx hqt
            rw [e0] at b0
            rw [e1] at b2
            rw [e2] at b3
            generalize X[q].pos = P at *
            clear e0 e1 e2
            generalize ts[q] = tk at *
            obtain ⟨tq, tp, tt, tn⟩ := tk
            simp only at a0 a1 a2 a3 b0 b2 b3
            have c0 := G13.cell a0 (by simp)
            have c1 := G13.cell a1 (by simp)
            have c2 := G13.cell a2 (by simp)
            have c3 := G13.cell a3 (by simp)
            have HD : Hid (wr.cell? ⟨g4, q * 4, none⟩ = some (.int .i64 (tq : Int)) ∧ wr.cell? ⟨g4, q * 4 + 1, none⟩ = some (.int .i64 (P : Int)) ∧ wr.cell? ⟨g4, q * 4 + 2, none⟩ = some (str tt) ∧ wr.cell? ⟨g4, q * 4 + 3, none⟩ = some (.int .u32 (tn : Int))) := ⟨HG.out.cell b0 (by simp), HG.out.cell b1 (by simp), HG.out.cell b2 (by simp), HG.out.cell b3 (by simp)⟩
            clear a0 a1 a2 a3 b0 b1 b2 b3 G13
            go_upto_region 27 with fail
            have VA := VAt.alloc wr 31 #[.int .i64 (tq : Int), .int .i64 (tp : Int), str tt, .int .u32 (tn : Int)]
            have KV := World.grownBy_alloc wr (.cells #[.int .i64 (tq : Int), .int .i64 (tp : Int), str tt, .int .u32 (tn : Int)] 31) none
            have HG5 : Hid (w3.grownBy (wr.alloc (.cells #[.int .i64 (tq : Int), .int .i64 (tp : Int), str tt, .int .u32 (tn : Int)] 31)) none) := grown_trans HG.out KV
            have pc5 := KV.cell pc (by simp)
            have d0 := KV.cell HD.out.1 (by simp)
            have d1 := KV.cell HD.out.2.1 (by simp)
            have d2 := KV.cell HD.out.2.2.1 (by simp)
            have d3 := KV.cell HD.out.2.2.2 (by simp)
            have HVV : Hid (g4 < wr.heap.size ∧ w3.heap.size ≤ wr.heap.size) := ⟨Nat.lt_of_lt_of_le HG4.out HG.out.size, HG.out.size⟩
            clear c0 c1 c2 c3 pc HD KV HG
            generalize wr.alloc (.cells #[.int .i64 (tq : Int), .int .i64 (tp : Int), str tt, .int .u32 (tn : Int)] 31) = w5 at *
            generalize wr.heap.size = V at *
            have k1 : w5.cell? ⟨V, 1, none⟩ = some (.int .i64 (tp : Int)) := VA.cell 1
            have kf := VA.free 1
            have VA6 : VAt (w5.setCell ⟨V, 1, none⟩ (.int .i64 (P : Int))) V 31 #[.int .i64 (tq : Int), .int .i64 (P : Int), str tt, .int .u32 (tn : Int)] := VA.set 1 _
            have KS := grown_set1 w5 ⟨V, 1, none⟩ (.int .i64 (P : Int))
            have hne4 : some g4 ≠ some V := by intro e; have := HVV.out.1; injection e with e; omega
            have HD6 : Hid (_ ∧ _ ∧ _ ∧ _) := ⟨KS.cell d0 (by first | exact hne4 | exact hne4.symm), KS.cell d1 (by first | exact hne4 | exact hne4.symm), KS.cell d2 (by first | exact hne4 | exact hne4.symm), KS.cell d3 (by first | exact hne4 | exact hne4.symm)⟩
            have HG6 : Hid (w3.grownBy (w5.setCell ⟨V, 1, none⟩ (.int .i64 (P : Int))) none) := grown_setCell HG5.out _ _ (.inr HVV.out.2)
            have HVA6 : Hid (VAt (w5.setCell ⟨V, 1, none⟩ (.int .i64 (P : Int))) V 31 #[.int .i64 (tq : Int), .int .i64 (P : Int), str tt, .int .u32 (tn : Int)]) := VA6
            clear VA VA6 d0 d1 d2 d3 KS HG5 hne4
            go_upto_region 28 with fail
            generalize w5.setCell ⟨V, 1, none⟩ (.int .i64 (P : Int)) = w6 at *
            obtain ⟨d0, d1, d2, d3⟩ := HD6.out
            clear k1 kf pc5
            have VA := HVA6.out
            have k0 : w6.cell? ⟨V, 0, none⟩ = some (.int .i64 (tq : Int)) := VA.cell 0
            have k1 : w6.cell? ⟨V, 1, none⟩ = some (.int .i64 (P : Int)) := VA.cell 1
            have k2 : w6.cell? ⟨V, 2, none⟩ = some (str tt) := VA.cell 2
            have k3 : w6.cell? ⟨V, 3, none⟩ = some (.int .u32 (tn : Int)) := VA.cell 3
            clear HVA6 HD6
            clear VA
            generalize (⟨tt.toArray⟩ : ByteArray) = tb at *
            go_quiet (fail)
            go_wp2
            go_roundw
            case rel => exact ⟨q + 1, by omega, by go_num, grown_trans HG6.out (grown_drewN w6 _ none)⟩
            case measure => simp [intOf]; omega
          · obtain rfl : q = i := by omega
            have hqi' : ¬ (q : Int) < (q : Int) := by omega
            have G := grown_trans HW3.out HG.out
            clear HG HC4 HD3 HPC HTK
            go_wp2_with fail
            refine (awake10_any _ (HT.out.grown (by assumption))).mono ?_
            rintro e w7 ⟨rfl, K7⟩
            go_wp2
            go_ret
            exact ⟨rfl, grown_trans G K7⟩

set_option maxRecDepth 100000 in
theorem lifted (os : Os) (started : os.Started) (H : Type) (enc : TypeId × Value → H) (F : Stop.Interp) :
    ReturnsInHanded {} Tryd.checked os 3 .any ((OpenSpec.ofChange Rows.lexBlanksSpec).preRow enc Tryd.prog Tryd.f3 Rows.lexBlanksRow.domain false Rows.lexBlanksRow.laid) (((OpenSpec.ofChange Rows.lexBlanksSpec).at F).post enc Tryd.prog Tryd.f3 false true false false) := by
  have hx : DataW.whole enc Tryd.prog ((laidWorld os).forCall (fun _ _ => 0) ⟨#[], #[.string .empty, .slice none 0 0], []⟩).memory Tryd.f3.params.toList Rows.lexBlanksSpec.vars false (#[.string .empty, .slice none 0 0] : Array Value).toList 8 = some ([.lit (.string []), .nil], [], []) := by kernel_rfl
  refine returnsInHanded_of_row (C := Tryd.checked) (s := (OpenSpec.ofChange Rows.lexBlanksSpec)) own started (by kernel_rfl) Tryd.func3
    (witness_row_atRef (enc := enc) (C := Tryd.checked) false (laidWorld os) #[.string .empty, .slice none 0 0] (World.laidAll_os _ _ _) (by kernel_rfl) (by kernel_rfl) (by kernel_rfl)
      (OpenSpec.preRow_of_cond 8 hx (by kernel_rfl) (fun k hk => by cases hk) (by kernel_rfl) (laid_met os _))) ?_
  intro W base args ds gs before hval0 hW hcnd hcond hsz0 hL hsh _
  have hsz : (DataW.weightsEach Tryd.prog (Tryd.f3.params.toList ++ Rows.lexBlanksSpec.plain.varTypes Tryd.prog) (ds ++ gs)).all (· ≤ reachBytes) = true := hsz0
  have T : Tab W := laid_tab hL hsh
  have hval : ∀ (j : Nat) t v, Tryd.f3.params[j]? = some t → args[j]? = some v → Value.okWide Tryd.prog W .any base t v := hval0
  have hW' := hW
  obtain ⟨p, q, hA0, hV, rfl, hfz, hnd⟩ := hW
  have hA : DataW.TrodAll enc Tryd.prog W 0 (fun _ => true) true Tryd.f3.params.toList args.toList ds p := hA0
  rw [Tryd.params3] at hA hval hsz
  obtain ⟨v0, vs0, d0, ds0, p0, q0, hargs, rfl, rfl, h0, r0⟩ := trodAll_cons hA
  obtain ⟨v1, vs1, d1, ds1, p1, q1, rfl, rfl, rfl, h1, r1⟩ := trodAll_cons r0
  obtain ⟨rfl, rfl, rfl⟩ := trodAll_nil r1
  obtain rfl : args = #[v0, v1] := by cases args; simp_all
  obtain ⟨rfl, rfl⟩ := trodVars_none hV
  obtain ⟨s0, rfl, rfl, rfl, hs0⟩ := open_string Tryd.underlying9 (hval 0 9 v0 rfl rfl) h0
  obtain ⟨a1, len1, cap1, rfl⟩ := okWide_slice Tryd.underlying22 (hval 1 22 v1 rfl rfl)
  have k1 := h1
  have lt1 : ∀ x ∈ p1, x.block < W.heap.size := by obtain ⟨m, hm⟩ := k1; exact DataW.trod_lt m _ _ _ hm
  obtain ⟨xs1, rfl, hcells1, hnil1, hdat1⟩ := open_bytes Tryd.underlying22 Tryd.underlying5 (by kernel_rfl) h1
  have hlen0 : s0.size ≤ 140737488351232 := by
    have h := sized_string hsz (j := 0) (t := 9) rfl rfl
    unfold reachBytes at h
    have e : s0.data.toList.length = s0.size := by rw [Array.length_toList]; rfl
    omega
  have hlen1 : xs1.length * 1 ≤ 140737488351232 := by
    rcases hdat1 with ⟨_, rfl⟩ | ⟨elems, spare, rfl, hle⟩
    · simp
    · have := sized_slice hsz (j := 1) (t := 22) (e := 5) rfl rfl Tryd.underlying22
      rw [bytes5] at this
      unfold reachBytes at this
      omega
  clear hA0 hval0
  refine (walk s0 a1 cap1 xs1 W hlen0 hcells1 hnil1 (by omega) T).mono fun e W' ⟨he, hg⟩ => ?_
  subst he
  have bel : Below W.heap.size W W' := (Below.refl _ _).grown hg (Nat.le_refl _) (by simp)
  exact ⟨_, rfl, _, _, _, [], _, [], hW', trodAll_mk1 (shut_bool Tryd.underlying4 _), (trodAll_cons_mk (shut_string Tryd.underlying9 hs0) (trodAll_cons_mk (Below.trod laidOut (by kernel_rfl) (of_decide_eq_true (by kernel_rfl)) k1 bel lt1) trodAll_mk0)), rfl, bel.frame _, fun h => by cases h⟩

theorem over : Rows.LexBlanksSaid :=
  OpenClaim.holds_of_cond 3 Tryd.f3 rfl rfl rfl rfl rfl rfl rfl ⟨rfl, rfl, rfl, rfl, rfl⟩ rfl rfl rfl rfl rfl (by kernel_rfl) Tryd.func3 (by kernel_rfl)
    (of_decide_eq_true (by kernel_rfl)) (by unfold Func.isWrapper; first | (rw [if_pos (by decide +kernel)]; kernel_rfl) | (rw [if_neg (by decide +kernel)]; exact ⟨rfl, rfl⟩))
    (fun os started H enc _ F => by rw [OpenClaim.pre_eq_preRow]; exact lifted os started H enc F)

theorem plain (f : FuncId) (fn : Func) (hf : Tryd.pinned.checked.prog.funcNamed "riddle/riddlelaw10.LexBlanks" = some f) (hfn : Tryd.pinned.checked.prog.funcs[f]? = some fn) :
    true = Tryd.pinned.checked.prog.looks [] ∧ ∀ (j : Nat) t, fn.params[j]? = some t → Tryd.pinned.checked.prog.wantsStandIn t = false := by
  obtain rfl : f = 3 := Option.some.inj ((show Tryd.prog.funcNamed "riddle/riddlelaw10.LexBlanks" = some 3 by kernel_rfl).symm.trans hf) |>.symm
  obtain rfl : fn = Tryd.f3 := (Option.some.inj (Tryd.func3.symm.trans hfn)).symm
  refine ⟨by kernel_rfl, fun j t ht => ?_⟩
  rw [Tryd.params3] at ht
  have ht2 := Array.mem_of_getElem? ht
  simp only [List.mem_toArray, List.mem_cons, List.not_mem_nil, or_false] at ht2
  rcases ht2 with rfl | rfl
  · exact (show Tryd.prog.wantsStandIn 9 = false by kernel_rfl)
  · exact (show Tryd.prog.wantsStandIn 22 = false by kernel_rfl)

theorem card : Rows.LexBlanksCardSaid :=
  Claim7.holds_tied_plain_at .later [] _ _ _ _ over (fun _ h => by cases h) (by kernel_rfl) (fun _ h => by cases h) lexBlanks_row_tie rfl ⟨rfl, rfl⟩ (by kernel_rfl) rfl plain (by kernel_rfl)

end lexBlanks

theorem lexBlanks_holds : Rows.LexBlanksCardSaid := lexBlanks.card
#print axioms lexBlanks_holds

end Go.Proofs.YtcmeejoabiedaaaDoor
