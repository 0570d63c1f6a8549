/-
  For every address of sixteen bytes riddlelaw6.AddrShort returns true and leaves what was there as it was: no condition.
-/
import Derived.Test.YtbklagdegnflgaaDoorOpenA
import Derived.Test.YtbklagdegnflgaaDoorAwake6
import Derived.Test.YtbklagdegnflgaaDoorLaid6
import Derived.Test.YtbklagdegnflgaaDoorAddrW
import Derived.Deep.WholeRow
namespace Go.Proofs.YtbklagdegnflgaaDoor
open Go.ChangeShapes Go.WideShapes Go.ChangeAt Go.RowKit
open Go.ChangeMaps (open_string shut_string)
set_option maxRecDepth 100000
namespace addrShort

theorem wpList_load_g {P : Program} {ops : Array Oper} {rest : List Oper} {o : Oper} {a : Act} {w : World} {Q : Exit → Act → World → Prop} (hw : Region.wanted o (yielded ops a.tmps) = true) (ty : TypeId) (x : Operand) (ho : o.op = .load ty x)
    (g : Nat) (hx : a.eval x = .pointer (some ⟨g, 0, none⟩)) (xs : List UInt8) (n : Nat) (e : TypeId) (A : AAt w g ty xs) (hu : P.underlying ty = some (.array n e)) (hi : (P.info? ty).map (·.size) = some (xs.map bv).toArray.size)
    (h : wpList P ops Q rest (a.put o.dst (.agg (xs.map bv).toArray)) w) : wpList P ops Q (o :: rest) a w :=
  BigFrame.wpList_want hw fun _ hK => wp_load_row ty x ho g hx ty _ (0, 0) _ A hu rfl hi (hK _ _ h)

/-- The letter ahead of a place. -/
def pvA (S : ByteArray) (k : Nat) : Option UInt8 := if k = 0 then none else (sl S)[k - 1]?

theorem dig_cut : ∀ d : Fin 16, (⟨#[48, 49, 50, 51, 52, 53, 54, 55, 56, 57, 97, 98, 99, 100, 101, 102]⟩ : ByteArray).extract d.val (d.val + 1) = ⟨#[hexD d.val]⟩ := by decide +kernel

theorem and15 : ∀ x : Fin 256, bits .and .u8 ((x.val : Nat) : Int) 15 = ((x.val % 16 : Nat) : Int) := by decide +kernel

set_option maxRecDepth 100000 in
set_option maxHeartbeats 4000000 in
theorem walk (xs : List UInt8) (w : World) (h16 : xs.length = 16) (T : Tab w) :
    Calls Tryd.prog 7 #[.agg (xs.map bv).toArray] w fun e w' => e = .returned (.bool true) ∧ w.grownBy w' none := by
  have HTb : Hid (Tab w) := T
  clear T
  have A0 := AAt.alloc w 29 xs
  have G0 := World.grownBy_alloc w (.cells (xs.map bv).toArray 29) none
  have H16 : Hid (xs.length = 16) := h16
  clear h16
  go_enter Tryd.func7, Tryd.ntmps7
  go_upto_region 1 with fail
  generalize w.alloc (.cells (xs.map bv).toArray 29) = w1 at *
  generalize w.heap.size = A at *
  have HA0 : Hid (AAt w1 A 29 xs) := A0
  clear A0
  go_wp2
  go_loopw [4, 5] (fun t i wr => ∃ (j : Nat), j ≤ 16 ∧ i = .int .i64 j ∧ t = str (fullTo xs j) ∧ ∃ n, wr = w1.drewN n) (fun _ i _ => 16 - (intOf i).toNat)
  case atStart => exact ⟨0, Nat.zero_le _, rfl, rfl, 0, rfl⟩
  case round =>
    obtain ⟨j, hj, rfl, rfl, n, rfl⟩ := hrel
    by_cases hlt : j < 16
    · have hlt' : (j : Int) < 16 := by omega
      have hl := full_len xs j
      have hjl : j < xs.length := by have := H16.out; omega
      have hc := HA0.out.cell hjl
      have hx := xs[j].toNat_lt
      have HN : Hid (fullTo xs (j + 1) = fullTo xs j ++ ((if (decide (0 < j) && j % 2 == 0) = true then [58] else []) ++ [hexD (xs[j].toNat / 16), hexD (xs[j].toNat % 16)])) := by
        show _ = _
        rw [fullTo, List.getD_eq_getElem?_getD, List.getElem?_eq_getElem hjl]
        rfl
      have ha15 := and15 ⟨xs[j].toNat, by omega⟩
      simp only at ha15
      generalize xs[j].toNat = v at *
      obtain ⟨p, hp⟩ : ∃ p : Nat, v / 16 = p := ⟨_, rfl⟩
      obtain ⟨q, hq⟩ : ∃ q : Nat, v % 16 = q := ⟨_, rfl⟩
      have hp16 : p < 16 := by omega
      have hq16 : q < 16 := by omega
      have hpi : (v : Int) / 16 = (p : Int) := by omega
      have e1 := dig_cut ⟨p, hp16⟩
      have e2 := dig_cut ⟨q, hq16⟩
      simp only at e1 e2
      rw [hq] at ha15
      rw [hp, hq] at HN
      clear hp hq
      generalize fullTo xs j = t at *
      have hs1 : (p : Int) ≤ (p : Int) + 1 := by omega
      have hs2 : (p : Int) + 1 ≤ 16 := by omega
      have hs3 : (q : Int) ≤ (q : Int) + 1 := by omega
      have hs4 : (q : Int) + 1 ≤ 16 := by omega
      have hs5 : ((p : Int) + 1).toNat = p + 1 := by omega
      have hs6 : ((q : Int) + 1).toNat = q + 1 := by omega
      have wr1 : IntKind.u8.wrap ((p : Int) + 1) = (p : Int) + 1 := by rw [IntKind.wrap_u8]; omega
      have wr2 : IntKind.u8.wrap ((q : Int) + 1) = (q : Int) + 1 := by rw [IntKind.wrap_u8]; omega
      by_cases h0 : 0 < j
      · have h0' : (0 : Int) < (j : Int) := by omega
        by_cases hm2 : j % 2 = 0
        · have hm : ((j : Int) % 2 == 0) = true := by
            have : (j : Int) % 2 = 0 := by omega
            rw [this]; rfl
          have HN2 : Hid (fullTo xs (j + 1) = t ++ ([58] ++ ([hexD p] ++ [hexD q]))) := by
            show _ = _
            rw [HN.out, if_pos (by rw [decide_eq_true h0, hm2]; rfl)]
            rfl
          clear HN hm2
          have hbig : ¬ 9223372036854775807 < t.length + 1 + 1 := by omega
          have hbig2 : ¬ 9223372036854775807 < t.length + 1 + 1 + 1 := by omega
          go_wp2
          go_quiet (fail)
          go_wp2
          go_roundw
          case rel => exact ⟨j + 1, by omega, by go_num, by rw [HN2.out, cat, cat, cat, List.append_assoc, List.append_assoc], n + nq, by simp [World.drewN]⟩
          case measure => simp [intOf]; omega
        · have hm : ((j : Int) % 2 == 0) = false := by rw [beq_eq_false_iff_ne]; omega
          have HN2 : Hid (fullTo xs (j + 1) = t ++ ([hexD p] ++ [hexD q])) := by
            show _ = _
            rw [HN.out, if_neg (by have : (j % 2 == 0) = false := by rw [beq_eq_false_iff_ne]; exact hm2
                                   rw [this, Bool.and_false]; simp)]
            rfl
          clear HN hm2
          have hbig : ¬ 9223372036854775807 < t.length + 1 := by omega
          have hbig2 : ¬ 9223372036854775807 < t.length + 1 + 1 := by omega
          go_wp2
          go_quiet (fail)
          go_wp2
          go_roundw
          case rel => exact ⟨j + 1, by omega, by go_num, by rw [HN2.out, cat, cat, List.append_assoc], n + nq, by simp [World.drewN]⟩
          case measure => simp [intOf]; omega
      · obtain rfl : j = 0 := by omega
        have HN2 : Hid (fullTo xs (0 + 1) = t ++ ([hexD p] ++ [hexD q])) := by
          show _ = _
          rw [HN.out, if_neg (by decide)]
          rfl
        clear HN
        have hbig : ¬ 9223372036854775807 < t.length + 1 := by omega
        have hbig2 : ¬ 9223372036854775807 < t.length + 1 + 1 := by omega
        rw [show ((0 : Nat) : Int) = 0 from rfl]
        rw [show ((0 : Nat) : Int) = 0 from rfl] at hlt'
        go_wp2
        go_quiet (fail)
        go_wp2
        go_roundw
        case rel => exact ⟨1, by omega, by go_num, by rw [show (1 : Nat) = 0 + 1 from rfl, HN2.out, cat, cat, List.append_assoc], n + nq, by simp [World.drewN]⟩
        case measure => simp [intOf]
    · obtain rfl : j = 16 := by omega
      rw [show ((16 : Nat) : Int) = 16 from rfl]
      have HA1 : Hid (AAt (w1.drewN n) A 29 xs) := HA0.out.grown (grown_drewN w1 n none) (by simp)
      have G1 := grown_trans G0 (grown_drewN w1 n none)
      have HF := full_len xs 16
      have CP : Hid (∀ W : World, Tab W → Calls Tryd.prog 14 #[str (fullTo xs 16)] W fun e w' => e = .returned (.tuple #[.agg (xs.map bv).toArray, .int .i64 0]) ∧ W.grownBy w' none) := fun W tb => by
        have hsz : (⟨(fullTo xs 16).toArray⟩ : ByteArray).size ≤ 1048576 := by
          have := sl_len ⟨(fullTo xs 16).toArray⟩
          rw [sl_str] at this
          omega
        have k := parse6_any ⟨(fullTo xs 16).toArray⟩ W hsz tb
        rw [sl_str, parse6_full xs H16.out] at k
        exact k
      have h8 := pairs_len 8 xs (by have := H16.out; omega)
      have HT := text_ok (pairsG xs) h8
      have HR := rows_text (pairsG xs) h8
      have hpl := print6_len (pairsG xs) h8
      obtain ⟨S, hS⟩ : ∃ S : ByteArray, (⟨(print6V (pairsG xs)).toArray⟩ : ByteArray) = S := ⟨_, rfl⟩
      have hSl : sl S = print6V (pairsG xs) := by rw [← hS]; rfl
      have hSz : S.size ≤ 39 := by rw [← sl_len, hSl]; exact hpl
      have CT : Hid (∀ W : World, Tab W → Calls Tryd.prog 16 #[.agg (xs.map bv).toArray] W fun e w' => e = .returned (.string S) ∧ W.grownBy w' none) := fun W tb => by
        have k := print6_any xs W H16.out tb
        rw [show str (print6V (pairsG xs)) = .string S by rw [← hS]] at k
        exact k
      rw [← hSl] at HT HR
      have HOK : Hid (okT none (sl S) = true) := HT.1
      have HGP : Hid (gapsT none (sl S) = rowsTo (pairsG xs) 7) := HR
      have HZ : Hid ((Tryd.prog.info? 29).map (·.size) = some (xs.map bv).toArray.size ∧ ((List.replicate 16 (0 : UInt8)).map bv).toArray.size = (xs.map bv).toArray.size) := by
        refine ⟨?_, ?_⟩
        · rw [bv_size, H16.out]; exact size29
        · rw [bv_size, bv_size, H16.out]; rfl
      have HE : Hid (∀ W : World, (Op.equalIn 10000 29 (.agg (xs.map bv).toArray) (.agg (xs.map bv).toArray)).run Tryd.prog W = .ok true W) := fun W => by
        have := eq29 xs xs H16.out H16.out W
        rw [decide_eq_true rfl] at this
        exact this
      clear HT HR hS hSl HF hpl h8 HA0 G0
      generalize w1.drewN n = w2 at *
      generalize fullTo xs 16 = tf at *
      go_wp2_with fail
      refine (CP.out _ (HTb.out.grown G1)).mono ?_
      rintro e w3 ⟨rfl, K3⟩
      have A3 := HA1.out.grown K3 (by simp)
      have G3 := grown_trans G1 K3
      have Y3 := AAt.alloc w3 29 (List.replicate 16 0)
      have Y4 := AAt.alloc w3 29 xs
      have K4 := World.grownBy_alloc w3 (.cells (xs.map bv).toArray 29) none
      have A4 := A3.grown K4 (by simp)
      have G4 := grown_trans G3 K4
      clear HA1 G1 A3 G3 K3 K4 CP w2
      go_upto_region 10 with (refine wpList_store_row rfl 29 (.tmp 6) (.tmp 55) rfl w3.heap.size (xs.map bv).toArray rfl rfl 29 _ Y3 HZ.out.1 HZ.out.2 (bv_all _) ?_)
      rw [World.setRow_alloc_new]
      generalize w3.alloc (.cells (xs.map bv).toArray 29) = w4 at *
      generalize w3.heap.size = Y at *
      clear Y3 w3
      go_wp2_with (refine wpList_load_row rfl 29 (.tmp 1) rfl A rfl 29 (xs.map bv).toArray (0, 0) _ A4 Tryd.underlying29 rfl HZ.out.1 ?_)
      refine (CT.out _ (HTb.out.grown G4)).mono ?_
      rintro e w5 ⟨rfl, K5⟩
      have HA5 : Hid (AAt w5 A 29 xs ∧ AAt w5 Y 29 xs) := ⟨A4.grown K5 (by simp), Y4.grown K5 (by simp)⟩
      have G5 := grown_trans G4 K5
      clear A4 Y4 G4 K5 CT w4
      go_wp2
      go_loop [9, 10] (fun gg i => ∃ k gp : Nat, k ≤ S.size ∧ gp ≤ k ∧ gg = .int .i64 gp ∧ i = .int .i64 k ∧ Hid (okT (pvA S k) ((sl S).drop k) = true) ∧ Hid (gp + gapsT (pvA S k) ((sl S).drop k) = rowsTo (pairsG xs) 7)) (fun _ i => S.size - (intOf i).toNat)
      case atStart => exact ⟨0, 0, Nat.zero_le _, Nat.le_refl _, rfl, rfl, HOK, (by rw [Nat.zero_add]; exact HGP.out : 0 + gapsT (pvA S 0) ((sl S).drop 0) = rowsTo (pairsG xs) 7)⟩
      case round =>
        clear HOK HGP
        obtain ⟨k, gp, hk, hgk, rfl, rfl, HO, HGt⟩ := hrel
        by_cases hlt : k < S.size
        · have hlt' : (k : Int) < (S.size : Int) := by omega
          have HD := sl_drop S k hlt
          have hpv : pvA S (k + 1) = some S[k] := by
            unfold pvA
            rw [if_neg (by omega), show k + 1 - 1 = k by omega, sl_at S k hlt]
          have ho := HO.out
          have hgt := HGt.out
          rw [HD, okT, Bool.and_eq_true, Bool.not_eq_true'] at ho
          rw [HD, gapsT] at hgt
          have HO2 : Hid (okT (pvA S (k + 1)) ((sl S).drop (k + 1)) = true) := by rw [hpv]; exact ho.2
          have HBad : Hid (badT (pvA S k) S[k] ((sl S).drop (k + 1)).head? = false) := ho.1
          have HG2 : Hid (gp + ((if pvA S k = some 58 ∧ S[k] = 58 then 1 else 0) + gapsT (pvA S (k + 1)) ((sl S).drop (k + 1))) = rowsTo (pairsG xs) 7) := by rw [hpv]; exact hgt
          have HHd : Hid (∀ h : k + 1 < S.size, ((sl S).drop (k + 1)).head? = some S[k + 1]) := fun h => by rw [sl_drop S (k + 1) h]; rfl
          clear HD hpv ho hgt HO HGt
          have b0 := S[k].toNat_lt
          have e58 : ∀ c : UInt8, c = 58 → ((c.toNat : Int) == 58) = true := fun c h => by rw [h]; rfl
          have n58 : ∀ c : UInt8, c ≠ 58 → ((c.toNat : Int) == 58) = false := fun c h => by
            rw [beq_eq_false_iff_ne]
            intro e
            exact h (UInt8.toNat_inj.1 (by simp; omega))
          have e48 : ∀ c : UInt8, c = 48 → ((c.toNat : Int) == 48) = true := fun c h => by rw [h]; rfl
          have n48 : ∀ c : UInt8, c ≠ 48 → ((c.toNat : Int) == 48) = false := fun c h => by
            rw [beq_eq_false_iff_ne]
            intro e
            exact h (UInt8.toNat_inj.1 (by simp; omega))
          have q58 : ∀ c : UInt8, c = 58 → ((c.toNat : Int) != 58) = false := fun c h => by rw [h]; rfl
          have HEE : Hid ((∀ c : UInt8, c = 58 → ((c.toNat : Int) == 58) = true) ∧ (∀ c : UInt8, c ≠ 58 → ((c.toNat : Int) == 58) = false) ∧ (∀ c : UInt8, c = 48 → ((c.toNat : Int) == 48) = true) ∧ (∀ c : UInt8, c ≠ 48 → ((c.toNat : Int) == 48) = false) ∧ (∀ c : UInt8, c = 58 → ((c.toNat : Int) != 58) = false)) := ⟨e58, n58, e48, n48, q58⟩
          clear e58 n58 e48 n48 q58
          by_cases hk0 : k = 0
          · subst hk0
            have CC : Hid (¬ (pvA S 0 = some 58 ∧ S[0] = 58)) := fun e => by have := e.1; simp [pvA] at this
            have hpv0 : pvA S 0 = none := rfl
            rw [show ((0 : Nat) : Int) = 0 from rfl]
            rw [show ((0 : Nat) : Int) = 0 from rfl] at hlt'
            by_cases h48 : S[0] = 48
            · have c48 := HEE.out.2.2.1 _ h48
              by_cases h1 : 0 + 1 < S.size
              · have h1' : (1 : Int) < (S.size : Int) := by omega
                have h58 : S[0 + 1] = 58 := by
                  have := HBad.out
                  rw [HHd.out h1, hpv0, h48] at this
                  simpa [badT] using this
                have c58 : ((S[1].toNat : Int) != 58) = false := HEE.out.2.2.2.2 _ h58
                have b1 := S[1].toNat_lt
                clear h48 h58 hpv0
                have HG3 : Hid (gp + gapsT (pvA S (0 + 1)) ((sl S).drop (0 + 1)) = rowsTo (pairsG xs) 7) := by
                  have this := HG2.out
                  show _ = _
                  rw [if_neg CC.out] at this
                  omega
                clear HG2 CC HBad HHd HEE
                go_wp2
                go_round
                case rel => exact ⟨0 + 1, gp, by omega, by omega, by go_num, by go_num, HO2, HG3⟩
                case measure => simp [intOf]; omega
              · have h1' : ¬ (1 : Int) < (S.size : Int) := by omega
                clear h48 hpv0
                have HG3 : Hid (gp + gapsT (pvA S (0 + 1)) ((sl S).drop (0 + 1)) = rowsTo (pairsG xs) 7) := by
                  have this := HG2.out
                  show _ = _
                  rw [if_neg CC.out] at this
                  omega
                clear HG2 CC HBad HHd HEE
                go_wp2
                go_round
                case rel => exact ⟨0 + 1, gp, by omega, by omega, by go_num, by go_num, HO2, HG3⟩
                case measure => simp [intOf]; omega
            · have c48 := HEE.out.2.2.2.1 _ h48
              clear h48 hpv0
              have HG3 : Hid (gp + gapsT (pvA S (0 + 1)) ((sl S).drop (0 + 1)) = rowsTo (pairsG xs) 7) := by
                have this := HG2.out
                show _ = _
                rw [if_neg CC.out] at this
                omega
              clear HG2 CC HBad HHd HEE
              go_wp2
              go_round
              case rel => exact ⟨0 + 1, gp, by omega, by omega, by go_num, by go_num, HO2, HG3⟩
              case measure => simp [intOf]; omega
          · have hk0' : ((k : Int) == 0) = false := by rw [beq_eq_false_iff_ne]; omega
            have hkp : (0 : Int) < (k : Int) := by omega
            have hkm : ((k : Int) - 1).toNat = k - 1 := by omega
            have hkm1 : (0 : Int) ≤ (k : Int) - 1 := by omega
            have hkm2 : (k : Int) - 1 < (S.size : Int) := by omega
            have hkl : k - 1 < S.size := by omega
            have hpvk : pvA S k = some S[k - 1] := by
              unfold pvA
              rw [if_neg hk0, sl_at S (k - 1) hkl]
            have b2 := S[k - 1].toNat_lt
            by_cases hp : S[k - 1] = 58
            · have p58 := HEE.out.1 _ hp
              by_cases h58 : S[k] = 58
              · have c58 := HEE.out.1 _ h58
                have c48 := HEE.out.2.2.2.1 S[k] (by rw [h58]; decide)
                have CC : Hid (pvA S k = some 58 ∧ S[k] = 58) := ⟨by rw [hpvk, hp], h58⟩
                clear hp h58 hpvk
                have HG3 : Hid (gp + 1 + gapsT (pvA S (k + 1)) ((sl S).drop (k + 1)) = rowsTo (pairsG xs) 7) := by
                  have this := HG2.out
                  show _ = _
                  rw [if_pos CC.out] at this
                  omega
                clear HG2 CC HBad HHd HEE
                go_wp2
                go_round
                case rel => exact ⟨k + 1, gp + 1, by omega, by omega, by go_num, by go_num, HO2, HG3⟩
                case measure => simp [intOf]; omega
              · have c58 := HEE.out.2.1 _ h58
                have CC : Hid (¬ (pvA S k = some 58 ∧ S[k] = 58)) := fun e => h58 e.2
                by_cases h48 : S[k] = 48
                · have c48 := HEE.out.2.2.1 _ h48
                  by_cases h1 : k + 1 < S.size
                  · have h1' : (k : Int) + 1 < (S.size : Int) := by omega
                    have hn58 : S[k + 1] = 58 := by
                      have := HBad.out
                      rw [HHd.out h1, hpvk, h48, hp] at this
                      simpa [badT] using this
                    have d58 : ((S[k + 1].toNat : Int) != 58) = false := HEE.out.2.2.2.2 _ hn58
                    have b1 := S[k + 1].toNat_lt
                    clear hp h58 hpvk h48 hn58
                    have HG3 : Hid (gp + gapsT (pvA S (k + 1)) ((sl S).drop (k + 1)) = rowsTo (pairsG xs) 7) := by
                      have this := HG2.out
                      show _ = _
                      rw [if_neg CC.out] at this
                      omega
                    clear HG2 CC HBad HHd HEE
                    go_wp2
                    go_round
                    case rel => exact ⟨k + 1, gp, by omega, by omega, by go_num, by go_num, HO2, HG3⟩
                    case measure => simp [intOf]; omega
                  · have h1' : ¬ (k : Int) + 1 < (S.size : Int) := by omega
                    clear hp h58 hpvk h48
                    have HG3 : Hid (gp + gapsT (pvA S (k + 1)) ((sl S).drop (k + 1)) = rowsTo (pairsG xs) 7) := by
                      have this := HG2.out
                      show _ = _
                      rw [if_neg CC.out] at this
                      omega
                    clear HG2 CC HBad HHd HEE
                    go_wp2
                    go_round
                    case rel => exact ⟨k + 1, gp, by omega, by omega, by go_num, by go_num, HO2, HG3⟩
                    case measure => simp [intOf]; omega
                · have c48 := HEE.out.2.2.2.1 _ h48
                  clear hp h58 hpvk h48
                  have HG3 : Hid (gp + gapsT (pvA S (k + 1)) ((sl S).drop (k + 1)) = rowsTo (pairsG xs) 7) := by
                    have this := HG2.out
                    show _ = _
                    rw [if_neg CC.out] at this
                    omega
                  clear HG2 CC HBad HHd HEE
                  go_wp2
                  go_round
                  case rel => exact ⟨k + 1, gp, by omega, by omega, by go_num, by go_num, HO2, HG3⟩
                  case measure => simp [intOf]; omega
            · have p58 := HEE.out.2.1 _ hp
              have CC : Hid (¬ (pvA S k = some 58 ∧ S[k] = 58)) := fun e => hp (by have := e.1; rw [hpvk] at this; exact Option.some.inj this)
              by_cases h58 : S[k] = 58
              · have c58 := HEE.out.1 _ h58
                clear hp h58 hpvk
                have HG3 : Hid (gp + gapsT (pvA S (k + 1)) ((sl S).drop (k + 1)) = rowsTo (pairsG xs) 7) := by
                  have this := HG2.out
                  show _ = _
                  rw [if_neg CC.out] at this
                  omega
                clear HG2 CC HBad HHd HEE
                go_wp2
                go_round
                case rel => exact ⟨k + 1, gp, by omega, by omega, by go_num, by go_num, HO2, HG3⟩
                case measure => simp [intOf]; omega
              · have c58 := HEE.out.2.1 _ h58
                clear hp h58 hpvk
                have HG3 : Hid (gp + gapsT (pvA S (k + 1)) ((sl S).drop (k + 1)) = rowsTo (pairsG xs) 7) := by
                  have this := HG2.out
                  show _ = _
                  rw [if_neg CC.out] at this
                  omega
                clear HG2 CC HBad HHd HEE
                go_wp2
                go_round
                case rel => exact ⟨k + 1, gp, by omega, by omega, by go_num, by go_num, HO2, HG3⟩
                case measure => simp [intOf]; omega
        · obtain rfl : k = S.size := by omega
          have HGF : Hid (gp = rowsTo (pairsG xs) 7) := by
            show gp = _
            have := HGt.out
            rw [List.drop_eq_nil_of_le (by rw [sl_len]; omega)] at this
            exact this
          clear HO HGt
          have HCC : Hid (∀ m (hm : m < 7), w5.cell? ⟨A, 2 * m, none⟩ = some (.int .u8 ((xs[2 * m]'(by have := H16.out; omega)).toNat : Int)) ∧ w5.cell? ⟨A, 2 * m + 1, none⟩ = some (.int .u8 ((xs[2 * m + 1]'(by have := H16.out; omega)).toNat : Int)) ∧ w5.cell? ⟨A, 2 * m + 2, none⟩ = some (.int .u8 ((xs[2 * m + 2]'(by have := H16.out; omega)).toNat : Int)) ∧ w5.cell? ⟨A, 2 * m + 3, none⟩ = some (.int .u8 ((xs[2 * m + 3]'(by have := H16.out; omega)).toNat : Int))) := fun m hm => ⟨HA5.out.1.cell _, HA5.out.1.cell _, HA5.out.1.cell _, HA5.out.1.cell _⟩
          have HRR : Hid (∀ m (hm : m < 7), rowsTo (pairsG xs) (m + 1) = if 256 * (xs[2 * m]'(by have := H16.out; omega)).toNat + (xs[2 * m + 1]'(by have := H16.out; omega)).toNat = 0 ∧ 256 * (xs[2 * m + 2]'(by have := H16.out; omega)).toNat + (xs[2 * m + 3]'(by have := H16.out; omega)).toNat = 0 then 1 else rowsTo (pairsG xs) m) := fun m hm => by
            have g1 := pairs_get 8 xs (by have := H16.out; omega) m (by omega)
            have g2 := pairs_get 8 xs (by have := H16.out; omega) (m + 1) (by omega)
            simp only [rowsTo, g1, g2, Option.some.injEq]
            rfl
          go_wp2
          go_loop [12, 13] (fun r i => ∃ m : Nat, m ≤ 7 ∧ i = .int .i64 (2 * (m : Int)) ∧ r = .int .i64 (rowsTo (pairsG xs) m : Int)) (fun _ i => 16 - (intOf i).toNat)
          case atStart => exact ⟨0, Nat.zero_le _, rfl, rfl⟩
          case round =>
            obtain ⟨m, hm, rfl, rfl⟩ := hrel
            by_cases hlt : m < 7
            · have hlt' : 2 * (m : Int) + 3 < 16 := by omega
              obtain ⟨c0, c1, c2, c3⟩ := HCC.out m hlt
              have HR1 : Hid _ := HRR.out m hlt
              have l0 : 2 * m < xs.length := by have := H16.out; omega
              have l1 : 2 * m + 1 < xs.length := by have := H16.out; omega
              have l2 : 2 * m + 2 < xs.length := by have := H16.out; omega
              have l3 : 2 * m + 3 < xs.length := by have := H16.out; omega
              generalize xs[2 * m].toNat = v0 at *
              generalize xs[2 * m + 1].toNat = v1 at *
              generalize xs[2 * m + 2].toNat = v2 at *
              generalize xs[2 * m + 3].toNat = v3 at *
              obtain ⟨rm, hrm⟩ : ∃ rm : Nat, rowsTo (pairsG xs) m = rm := ⟨_, rfl⟩
              have HRM : Hid (rowsTo (pairsG xs) m = rm) := hrm
              rw [hrm]
              clear hrm
              have i0 : (2 * (m : Int)).toNat = 2 * m := by omega
              have i1 : (2 * (m : Int) + 1).toNat = 2 * m + 1 := by omega
              have i2 : (2 * (m : Int) + 2).toNat = 2 * m + 2 := by omega
              have i3 : (2 * (m : Int) + 3).toNat = 2 * m + 3 := by omega
              have z : ∀ v : Nat, v = 0 → ((v : Int) == 0) = true := fun v h => by rw [h]; rfl
              have nz : ∀ v : Nat, v ≠ 0 → ((v : Int) == 0) = false := fun v h => by rw [beq_eq_false_iff_ne]; omega
              have HZZ : Hid ((∀ v : Nat, v = 0 → ((v : Int) == 0) = true) ∧ (∀ v : Nat, v ≠ 0 → ((v : Int) == 0) = false)) := ⟨z, nz⟩
              clear z nz
              by_cases e0 : v0 = 0
              · have d0 := HZZ.out.1 _ e0
                by_cases e1 : v1 = 0
                · have d1 := HZZ.out.1 _ e1
                  by_cases e2 : v2 = 0
                  · have d2 := HZZ.out.1 _ e2
                    by_cases e3 : v3 = 0
                    · have d3 := HZZ.out.1 _ e3
                      have HZS : Hid (v0 = 0 ∧ v1 = 0 ∧ v2 = 0 ∧ v3 = 0) := ⟨e0, e1, e2, e3⟩
                      have HF3 : Hid (rowsTo (pairsG xs) (m + 1) = 1) := by
                        show _ = 1
                        rw [HR1.out, if_pos (by have := HZS.out; omega)]
                      clear e0 e1 e2 e3 HR1 HRM HZZ HZS
                      go_wp2
                      go_round
                      case rel => exact ⟨m + 1, by omega, by go_num, by rw [HF3.out]; rfl⟩
                      case measure => simp [intOf]; omega
                    · have d3 := HZZ.out.2 _ e3
                      have HZS : Hid (v0 = 0 ∧ v1 = 0 ∧ v2 = 0 ∧ v3 ≠ 0) := ⟨e0, e1, e2, e3⟩
                      have HF3 : Hid (rowsTo (pairsG xs) (m + 1) = rm) := by
                        show _ = rm
                        rw [HR1.out, if_neg (by have := HZS.out; omega), HRM.out]
                      clear e0 e1 e2 e3 HR1 HRM HZZ HZS
                      go_wp2
                      go_round
                      case rel => exact ⟨m + 1, by omega, by go_num, by rw [HF3.out]⟩
                      case measure => simp [intOf]; omega
                  · have d2 := HZZ.out.2 _ e2
                    have HZS : Hid (v0 = 0 ∧ v1 = 0 ∧ v2 ≠ 0) := ⟨e0, e1, e2⟩
                    have HF3 : Hid (rowsTo (pairsG xs) (m + 1) = rm) := by
                      show _ = rm
                      rw [HR1.out, if_neg (by have := HZS.out; omega), HRM.out]
                    clear e0 e1 e2 HR1 HRM HZZ HZS
                    go_wp2
                    go_round
                    case rel => exact ⟨m + 1, by omega, by go_num, by rw [HF3.out]⟩
                    case measure => simp [intOf]; omega
                · have d1 := HZZ.out.2 _ e1
                  have HZS : Hid (v0 = 0 ∧ v1 ≠ 0) := ⟨e0, e1⟩
                  have HF3 : Hid (rowsTo (pairsG xs) (m + 1) = rm) := by
                    show _ = rm
                    rw [HR1.out, if_neg (by have := HZS.out; omega), HRM.out]
                  clear e0 e1 HR1 HRM HZZ HZS
                  go_wp2
                  go_round
                  case rel => exact ⟨m + 1, by omega, by go_num, by rw [HF3.out]⟩
                  case measure => simp [intOf]; omega
              · have d0 := HZZ.out.2 _ e0
                have HZS : Hid (v0 ≠ 0) := e0
                have HF3 : Hid (rowsTo (pairsG xs) (m + 1) = rm) := by
                  show _ = rm
                  rw [HR1.out, if_neg (by have := HZS.out; omega), HRM.out]
                clear e0 HR1 HRM HZZ HZS
                go_wp2
                go_round
                case rel => exact ⟨m + 1, by omega, by go_num, by rw [HF3.out]⟩
                case measure => simp [intOf]; omega
            · obtain rfl : m = 7 := by omega
              have HGF2 : Hid ((gp : Int) = (rowsTo (pairsG xs) 7 : Int)) := by
                show (gp : Int) = _
                rw [HGF.out]
              have hgb : ((gp : Int) == (rowsTo (pairsG xs) 7 : Int)) = true := by rw [HGF2.out]; simp
              have A5 := HA5.out.1
              have Y5 := HA5.out.2
              have heq := HE.out
              generalize rowsTo (pairsG xs) 7 = tot at *
              rw [show 2 * ((7 : Nat) : Int) = 14 from rfl]
              go_wp2_with (first | (refine wpList_load_g rfl 29 (.tmp 6) rfl Y rfl xs 16 5 Y5 Tryd.underlying29 HZ.out.1 ?_) | (refine wpList_load_g rfl 29 (.tmp 1) rfl A rfl xs 16 5 A5 Tryd.underlying29 HZ.out.1 ?_))
              clear heq A5 Y5 hgb
              refine (awake6_any _ (HTb.out.grown G5)).mono ?_
              rintro e w6 ⟨rfl, K6⟩
              go_wp2
              go_ret
              exact ⟨rfl, grown_trans G5 K6⟩

set_option maxRecDepth 100000 in
theorem lifted (os : Os) (started : os.Started) (H : Type) (enc : TypeId × Value → H) (F : Stop.Interp) :
    ReturnsInHanded {} Tryd.checked os 7 .any ((OpenSpec.ofChange Rows.addrShortSpec).preRow enc Tryd.prog Tryd.f7 Rows.addrShortRow.domain false Rows.addrShortRow.laid) (((OpenSpec.ofChange Rows.addrShortSpec).at F).post enc Tryd.prog Tryd.f7 false true false false) := by
  have hx : DataW.whole enc Tryd.prog ((laidWorld os).forCall (fun _ _ => 0) ⟨#[], #[.agg #[.int .u8 0, .int .u8 0, .int .u8 0, .int .u8 0, .int .u8 0, .int .u8 0, .int .u8 0, .int .u8 0, .int .u8 0, .int .u8 0, .int .u8 0, .int .u8 0, .int .u8 0, .int .u8 0, .int .u8 0, .int .u8 0]], []⟩).memory Tryd.f7.params.toList Rows.addrShortSpec.vars false (#[.agg #[.int .u8 0, .int .u8 0, .int .u8 0, .int .u8 0, .int .u8 0, .int .u8 0, .int .u8 0, .int .u8 0, .int .u8 0, .int .u8 0, .int .u8 0, .int .u8 0, .int .u8 0, .int .u8 0, .int .u8 0, .int .u8 0]] : Array Value).toList 8 = some ([.agg [.lit (.int .u8 0), .lit (.int .u8 0), .lit (.int .u8 0), .lit (.int .u8 0), .lit (.int .u8 0), .lit (.int .u8 0), .lit (.int .u8 0), .lit (.int .u8 0), .lit (.int .u8 0), .lit (.int .u8 0), .lit (.int .u8 0), .lit (.int .u8 0), .lit (.int .u8 0), .lit (.int .u8 0), .lit (.int .u8 0), .lit (.int .u8 0)]], [], []) := by kernel_rfl
  refine returnsInHanded_of_row (C := Tryd.checked) (s := (OpenSpec.ofChange Rows.addrShortSpec)) own started (by kernel_rfl) Tryd.func7
    (witness_row_at (enc := enc) (C := Tryd.checked) false (laidWorld os) #[.agg #[.int .u8 0, .int .u8 0, .int .u8 0, .int .u8 0, .int .u8 0, .int .u8 0, .int .u8 0, .int .u8 0, .int .u8 0, .int .u8 0, .int .u8 0, .int .u8 0, .int .u8 0, .int .u8 0, .int .u8 0, .int .u8 0]] rfl (by kernel_rfl) (by kernel_rfl) (by kernel_rfl)
      (OpenSpec.preRow_of_cond 8 hx (by kernel_rfl) (fun k hk => by cases hk) (by kernel_rfl) (laid_met os _))) ?_
  intro W base args ds gs before hval0 hW hcnd hcond hsz0 hL hsh _
  have hsz : (DataW.weightsEach Tryd.prog (Tryd.f7.params.toList ++ Rows.addrShortSpec.plain.varTypes Tryd.prog) (ds ++ gs)).all (· ≤ reachBytes) = true := hsz0
  have T : Tab W := laid_tab hL hsh
  have hval : ∀ (j : Nat) t v, Tryd.f7.params[j]? = some t → args[j]? = some v → Value.okWide Tryd.prog W .any base t v := hval0
  have hW' := hW
  obtain ⟨p, q, hA0, hV, rfl, hfz, hnd⟩ := hW
  have hA : DataW.TrodAll enc Tryd.prog W 0 (fun _ => true) true Tryd.f7.params.toList args.toList ds p := hA0
  rw [Tryd.params7] at hA hval hsz
  obtain ⟨v0, vs0, d0, ds0, p0, q0, hargs, rfl, rfl, h0, r0⟩ := trodAll_cons hA
  obtain ⟨rfl, rfl, rfl⟩ := trodAll_nil r0
  obtain rfl : args = #[v0] := by cases args; simp_all
  obtain ⟨rfl, rfl⟩ := trodVars_none hV
  have k0 := h0
  have lt0 : ∀ x ∈ p0, x.block < W.heap.size := by obtain ⟨m, hm⟩ := k0; exact DataW.trod_lt m _ _ _ hm
  obtain ⟨x0, xl0, rfl⟩ := open_arr Tryd.underlying29 (by kernel_rfl) (by decide) h0
  clear hA0 hval0
  refine (walk x0 W xl0 T).mono fun e W' ⟨he, hg⟩ => ?_
  subst he
  have bel : Below W.heap.size W W' := (Below.refl _ _).grown hg (Nat.le_refl _) (by simp)
  exact ⟨_, rfl, _, _, _, [], _, [], hW', trodAll_mk1 (shut_bool Tryd.underlying4 _), (trodAll_cons_mk (Below.trod laidOut (by kernel_rfl) (of_decide_eq_true (by kernel_rfl)) k0 bel lt0) trodAll_mk0), rfl, bel.frame _, fun h => by cases h⟩

theorem over : Rows.AddrShortSaid :=
  OpenClaim.holds_of_cond 7 Tryd.f7 rfl rfl rfl rfl rfl rfl rfl ⟨rfl, rfl, rfl, rfl, rfl⟩ rfl rfl rfl rfl rfl (by kernel_rfl) Tryd.func7 (by kernel_rfl)
    (of_decide_eq_true (by kernel_rfl)) (by unfold Func.isWrapper; first | (rw [if_pos (by decide +kernel)]; kernel_rfl) | (rw [if_neg (by decide +kernel)]; exact ⟨rfl, rfl⟩))
    (fun os started H enc _ F => by rw [OpenClaim.pre_eq_preRow]; exact lifted os started H enc F)

theorem plain (f : FuncId) (fn : Func) (hf : Tryd.pinned.checked.prog.funcNamed "riddle/riddlelaw6.AddrShort" = some f) (hfn : Tryd.pinned.checked.prog.funcs[f]? = some fn) :
    false = Tryd.pinned.checked.prog.looks [] ∧ ∀ (j : Nat) t, fn.params[j]? = some t → Tryd.pinned.checked.prog.wantsStandIn t = false := by
  obtain rfl : f = 7 := Option.some.inj ((show Tryd.prog.funcNamed "riddle/riddlelaw6.AddrShort" = some 7 by kernel_rfl).symm.trans hf) |>.symm
  obtain rfl : fn = Tryd.f7 := (Option.some.inj (Tryd.func7.symm.trans hfn)).symm
  refine ⟨by kernel_rfl, fun j t ht => ?_⟩
  rw [Tryd.params7] at ht
  have ht2 := Array.mem_of_getElem? ht
  simp only [List.mem_toArray, List.mem_cons, List.not_mem_nil, or_false] at ht2
  rcases ht2 with rfl
  · exact (show Tryd.prog.wantsStandIn 29 = false by kernel_rfl)

theorem card : Rows.AddrShortCardSaid :=
  Claim7.holds_tied_plain_at .later [] _ _ _ _ over (fun _ h => by cases h) (by kernel_rfl) (fun _ h => by cases h) addrShort_row_tie rfl ⟨rfl, rfl⟩ (by kernel_rfl) rfl plain (by kernel_rfl)

end addrShort

theorem addrShort_holds : Rows.AddrShortCardSaid := addrShort.card
#print axioms addrShort_holds

end Go.Proofs.YtbklagdegnflgaaDoor
