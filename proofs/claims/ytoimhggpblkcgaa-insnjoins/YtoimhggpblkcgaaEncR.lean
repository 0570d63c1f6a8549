/-
  The document's own Bytes, Encode and Decode.
-/
import Derived.Test.YtoimhggpblkcgaaPutR
import Derived.Test.YtoimhggpblkcgaaStep
import Derived.Test.YtoimhggpblkcgaaICopy
import Derived.Deep.RegionHeld3
namespace Go.Proofs.Ytoimhggpblkcgaa
open Go.RowKit

/-- v in so many bytes. -/
def bytesV (S v : Nat) : List UInt8 := putTo (List.replicate S 0) 0 S v S

theorem bytesV_len (S v : Nat) : (bytesV S v).length = S := by simp [bytesV, putTo_len]

theorem bytesV_put (S v : Nat) (hS : S = 1 ∨ S = 2 ∨ S = 4) : putV (List.replicate S (0 : UInt8)) 0 S v = bytesV S v ∧ okB (List.replicate S (0 : UInt8)).length 0 S = true := by
  have hok : okB (List.replicate S (0 : UInt8)).length 0 S = true := decide_eq_true (by rw [List.length_replicate]; omega)
  refine ⟨?_, hok⟩
  simp only [putV, hok, if_pos]
  rfl

set_option maxHeartbeats 400000 in
theorem bytes_any (S v : Nat) (s : Int) (hs : s = (S : Int)) (hS : S = 1 ∨ S = 2 ∨ S = 4) (hv : v ≤ 4294967295) (w : World) :
    Calls Try.prog 35 #[.int .u32 v, .int .i64 s] w fun e w' => ∃ u, e = .returned u ∧ Owns w' w.heap.size u (bytesV S v) ∧ w.grownBy w' none := by
  subst hs
  obtain ⟨i0, hi, hz0, hz1, hz2⟩ := info_parts info5
  go_enter Try.func35, Try.ntmps35
  go_wp2_with (at_make; refine wpList_make_full _ rfl (.tmp 8) (.tmp 8) 29 rfl w.heap.size 5 i0 (.int .u8 0) 1 Try.underlying29 hi hz0 hz1 .i64 .i64 (S : Int) (S : Int) S rfl rfl rfl rfl ?q1 ?q2 ?q3 ?q4)
  case q1 => rw [hz2]; omega
  case q2 => unfold maxLen; omega
  case q3 => exact Nat.le_refl _
  case q4 =>
    intro w1 h1 h2
    have O : Owns w1 w.heap.size (.slice (some ⟨w.heap.size, 0, none⟩) S S) (List.replicate S 0) := by
      rw [toList_madeCells_one] at h1
      unfold Owns
      simpa [bv] using h1
    obtain ⟨ao, cap, hv1, C, h0, -⟩ := O.rd
    rw [List.length_replicate] at hv1
    simp only [Value.slice.injEq] at hv1
    obtain ⟨rfl, -, rfl⟩ := hv1
    have hp := refput_any (some ⟨w.heap.size, 0, none⟩) S (List.replicate S 0) 0 S v w1 C (by simp) (by simp; omega) hv
    rw [(bytesV_put S v hS).1, (bytesV_put S v hS).2, List.length_replicate] at hp
    have HP := hp
    clear h1 O C h0 hp
    go_wp2_with fail
    refine HP.mono ?_
    rintro e w2 ⟨u, rfl, O2, K2⟩
    have G2 := grown_trans h2 K2
    have O3 : Owns w2 w.heap.size u (bytesV S v) := owns_mono O2 h2.size
    clear O2 K2
    go_wp2
    go_ret
    exact ⟨u, rfl, O3, G2⟩

/-- An instruction's bytes; a program's. -/
def encI (x : In) : List UInt8 := bytesV 2 x.code.toNat ++ [x.jt, x.jf] ++ bytesV 4 x.k.toNat
def encS (xs : List In) : List UInt8 := xs.flatMap encI

theorem encI_len (x : In) : (encI x).length = 8 := by simp [encI, bytesV_len]
theorem encS_succ (xs : List In) (k : Nat) (hk : k < xs.length) : encS (xs.take (k + 1)) = encS (xs.take k) ++ encI xs[k] := by
  rw [List.take_succ_eq_append_getElem hk]; simp only [encS, List.flatMap_append, List.flatMap_cons, List.flatMap_nil, List.append_nil]
theorem encS_len (xs : List In) : (encS xs).length = 8 * xs.length := by
  induction xs with
  | nil => rfl
  | cons x xs ih => simp only [encS, List.flatMap_cons, List.length_append, List.length_cons, encI_len] at *; omega

/-- What a call leaves that makes bytes, or an error. -/
def MadeE (w w' : World) (e : Ending) (xs : List UInt8) (code : Int) : Prop := ∃ v, e = .returned (.tuple #[v, .int .i64 code]) ∧ Owns w' w.heap.size v xs ∧ w.grownBy w' none

def encV (xs : List In) : List UInt8 := if xs.length ≤ 4096 then encS xs else []
def encE (xs : List In) : Int := if xs.length ≤ 4096 then 0 else 21

set_option maxHeartbeats 2000000 in
theorem refencode_any (a : Option Addr) (ca : Nat) (xs : List In) (w : World) (ha : CV w a (flat xs)) (hn : xs.length * 8 ≤ 140737488355328) :
    Calls Try.prog 15 #[.slice a xs.length ca] w fun e w' => MadeE w w' e (encV xs) (encE xs) := by
  obtain ⟨i0, hi, hz0, hz1, hz2⟩ := info_parts info5
  have H : Hid (CV w a (flat xs)) := ha
  clear ha
  by_cases h4 : xs.length ≤ 4096
  case neg =>
    have e1 : encV xs = [] := by simp [encV, h4]
    have e2 : encE xs = 21 := by simp [encE, h4]
    rw [e1, e2]
    clear e1 e2
    have h5 : (4096 : Int) < (xs.length : Int) := by omega
    go_enter Try.func15, Try.ntmps15
    go_wp2
    go_ret2
    exact ⟨_, rfl, World.ownsRow_nil _ _ _ _, World.grownBy.refl _ _⟩
  case pos =>
    have e1 : encV xs = encS xs := by simp [encV, h4]
    have e2 : encE xs = 0 := by simp [encE, h4]
    rw [e1, e2]
    clear e1 e2
    have h5 : ¬ (4096 : Int) < (xs.length : Int) := by omega
    go_enter Try.func15, Try.ntmps15
    go_wp2
    go_loopw [4, 5] (fun v i wr => ∃ k : Nat, k ≤ xs.length ∧ i = .int .i64 k ∧ Owns wr w.heap.size v (encS (xs.take k)) ∧ w.grownBy wr none) (fun _ i _ => xs.length - (intOf i).toNat)
    case atStart => exact ⟨0, Nat.zero_le _, rfl, World.ownsRow_nil _ _ _ _, World.grownBy.refl _ _⟩
    case round =>
      obtain ⟨k, hk, rfl, O, G⟩ := hrel
      by_cases hlt : k < xs.length
      · obtain ⟨b, o, rfl, hc⟩ := H.out.insns hlt
        obtain ⟨c0, c1, c2, c3⟩ := hc k hlt
        have HJ : Hid (encS (xs.take (k + 1)) = encS (xs.take k) ++ encI xs[k]) := encS_succ xs k hlt
        have HL : Hid ((encS (xs.take k)).length ≤ 32760) := by
          show (encS (xs.take k)).length ≤ 32760
          rw [encS_len, List.length_take]
          omega
        clear hc
        generalize xs[k] = x at *
        have hcode := x.code.toNat_lt
        have hkk := x.k.toNat_lt
        have hl : (k : Int) < (xs.length : Int) := by omega
        have g0 : wr.cell? ⟨b, o + k * 4, none⟩ = some (.int .u16 (x.code.toNat : Int)) := G.cell c0 (by simp)
        go_wp2_with fail
        refine (bytes_any 2 x.code.toNat 2 rfl (.inr (.inl rfl)) (by omega) _).mono ?_
        rintro e w1 ⟨y1, rfl, O1, K1⟩
        have HB1 : Hid (bytesV 2 x.code.toNat = bytesV 2 x.code.toNat) := rfl
        obtain ⟨bs1, hbs1⟩ : ∃ bs, bytesV 2 x.code.toNat = bs := ⟨_, rfl⟩
        have hlen1 : bs1.length = 2 := by rw [← hbs1]; exact bytesV_len _ _
        rw [hbs1] at O1
        have HB : Hid (bytesV 2 x.code.toNat = bs1) := hbs1
        clear hbs1 HB1
        obtain ⟨a1, p1, rfl, C1, n1, -⟩ := O1.rd
        have G1 := grown_trans G K1
        have OO1 := owns_keptNone O K1
        clear O O1 g0 K1 G
        have HL1 : Hid (bs1.length = 2) := hlen1
        clear hlen1
        go_wp2_with (at_builtin; refine wpList_append_rd rfl (.tmp 15) (.tmp 22) 29 rfl i0 Try.underlying29 hi hz0 hz1 hz2 w.heap.size u4 (encS (xs.take k)) rfl OO1 a1 p1 bs1 rfl n1 C1 ?q3 ?q4 ?q5)
        case q3 => have := HL.out; have := HL1.out; omega
        case q4 => exact G1.size
        case q5 =>
          intro y2 w2 O2 K2
          have G2 : w.grownBy w2 none := grown_trans_new G1 K2 (fun z hz => (OO1.lt z hz).1)
          clear K2 OO1 G1 C1
          have g1 : w2.cell? ⟨b, o + k * 4 + 1, none⟩ = some (.int .u8 (x.jt.toNat : Int)) := G2.cell c1 (by simp)
          have g2 : w2.cell? ⟨b, o + k * 4 + 2, none⟩ = some (.int .u8 (x.jf.toNat : Int)) := G2.cell c2 (by simp)
          generalize hE : encS (xs.take k) ++ bs1 = E1 at *
          have HE : Hid (encS (xs.take k) ++ bs1 = E1) := hE
          have HEl : Hid (E1.length ≤ 32762) := by
            show E1.length ≤ 32762
            rw [← hE, List.length_append, HL1.out]
            have := HL.out
            omega
          clear hE
          go_wp2
          go_region_law (refine step_append_rd rfl (.tmp 24) (.tmp 35) 29 rfl i0 Try.underlying29 hi hz0 hz1 hz2 w.heap.size y2 E1 (by simp [Act.eval]) (by first | exact (O2.alloc _).drew | exact O2.drew.alloc _) ⟨w2.heap.size, 0, none⟩ 2 [x.jt, x.jf] (by simp [Act.eval]) (by exact cells_lit w2 [x.jt, x.jf]) (by have := HEl.out; simp; omega) (by have := G2.size; simp; omega) ?_; intro y3 w3 O3 K3)
          all_goals
            rename_i y3 w3 O3 K3
            have G3 : w.grownBy w3 none := grown_trans_new G2 (grown_trans (grown_alloc_drew w2 _ _) K3) (fun z hz => (O2.lt z hz).1)
            clear K3 O2 G2 g1 g2
            have g3 : w3.cell? ⟨b, o + k * 4 + 3, none⟩ = some (.int .u32 (x.k.toNat : Int)) := G3.cell c3 (by simp)
            generalize hE2 : E1 ++ [x.jt, x.jf] = E2 at *
            have HE2 : Hid (E1 ++ [x.jt, x.jf] = E2) := hE2
            have HE2l : Hid (E2.length ≤ 32764) := by
              show E2.length ≤ 32764
              rw [← hE2, List.length_append]
              have := HEl.out
              simp
              omega
            clear hE2
            go_wp2_with fail
            refine (bytes_any 4 x.k.toNat 4 rfl (.inr (.inr rfl)) (by omega) _).mono ?_
            rintro e w4 ⟨y4, rfl, O4, K4⟩
            obtain ⟨bs4, hbs4⟩ : ∃ bs, bytesV 4 x.k.toNat = bs := ⟨_, rfl⟩
            have hlen4 : bs4.length = 4 := by rw [← hbs4]; exact bytesV_len _ _
            rw [hbs4] at O4
            have HB4 : Hid (bytesV 4 x.k.toNat = bs4) := hbs4
            clear hbs4
            obtain ⟨a4, p4, rfl, C4, n4, -⟩ := O4.rd
            have G4 := grown_trans G3 K4
            have OO4 := owns_keptNone O3 K4
            clear O3 O4 K4 G3 g3
            have HL4 : Hid (bs4.length = 4) := hlen4
            clear hlen4
            go_wp2_with (at_builtin; refine wpList_append_rd rfl (.tmp 37) (.tmp 43) 29 rfl i0 Try.underlying29 hi hz0 hz1 hz2 w.heap.size y3 E2 rfl OO4 a4 p4 bs4 rfl n4 C4 ?r3 ?r4 ?r5)
            case r3 => have := HE2l.out; have := HL4.out; omega
            case r4 => exact G4.size
            case r5 =>
              intro y5 w5 O5 K5
              have G5 : w.grownBy w5 none := grown_trans_new G4 K5 (fun z hz => (OO4.lt z hz).1)
              have e5 : E2 ++ bs4 = encS (xs.take (k + 1)) := by
                rw [HJ.out, ← HE2.out, ← HE.out, ← HB4.out, ← HB.out]
                simp [encI]
              rw [e5] at O5
              clear K5 OO4 G4 C4 e5
              go_wp2
              go_roundw
              case rel => exact ⟨k + 1, by omega, by go_num, O5, G5⟩
              case measure => simp [intOf]; omega
      · obtain rfl : k = xs.length := by omega
        rw [List.take_length] at O
        go_wp2
        go_ret2
        exact ⟨_, rfl, O, G⟩

end Go.Proofs.Ytoimhggpblkcgaa
