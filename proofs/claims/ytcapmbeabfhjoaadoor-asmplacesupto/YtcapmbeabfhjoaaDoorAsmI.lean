/-
  Package asm reads: the rows.
-/
import Derived.Test.YtcapmbeabfhjoaaDoorAsmH
import Derived.Test.YtcapmbeabfhjoaaDoorAsmC
import Derived.Laws.MakeOwn
namespace Go.Proofs.YtcapmbeabfhjoaaDoor
open Go.RowKit
set_option maxRecDepth 100000

theorem infoR : (Tryd.prog.info? 73).map (fun i => (i.zero, i.size, i.bytes)) = some (some (.agg #[.int .u16 0, .nilFunc]), 2, 16) := by kernel_rfl

/-- A row: its code and its text, and the function value that expects it. -/
abbrev Rw : Type := (Nat × List UInt8) × Value
def rCells (rs : List Rw) : List Value := rs.flatMap fun r => [.int .u16 (r.1.1 : Int), r.2]
def RowsOk (fp : Fp) (rs : List Rw) : Prop := ∀ r ∈ rs, Does fp r.2 (rowB r.1.2)
theorem rCells_len (rs : List Rw) : (rCells rs).length = rs.length * 2 := by
  unfold rCells
  induction rs with
  | nil => rfl
  | cons r rs ih => rw [List.flatMap_cons, List.length_append, ih]; simp; omega
theorem rCells_snoc (rs : List Rw) (r : Rw) : rCells (rs ++ [r]) = rCells rs ++ [.int .u16 (r.1.1 : Int), r.2] := by simp [rCells]
theorem rCells_at (rs : List Rw) (j : Nat) (h : j < rs.length) : (rCells rs)[j * 2]? = some (.int .u16 (rs[j].1.1 : Int)) ∧ (rCells rs)[j * 2 + 1]? = some rs[j].2 := by
  unfold rCells
  induction rs generalizing j with
  | nil => simp at h
  | cons r rs ih =>
    cases j with
    | zero => simp
    | succ j =>
      have := ih j (by simpa using h)
      rw [List.flatMap_cons, show (j + 1) * 2 = j * 2 + 1 + 1 by omega]
      simpa using this

theorem RowsOk.more {fp fq : Fp} {rs : List Rw} (h : RowsOk fp rs) (hs : ∀ x ∈ fp, x ∈ fq) : RowsOk fq rs := fun r hr => (h r hr).more hs
theorem RowsOk.snoc {fp : Fp} {rs : List Rw} {r : Rw} (h : RowsOk fp rs) (k : Does fp r.2 (rowB r.1.2)) : RowsOk fp (rs ++ [r]) := fun q hq => by
  rcases List.mem_append.1 hq with hq | hq
  · exact h q hq
  · simp only [List.mem_singleton] at hq
    subst hq
    exact k

def knownFp (b : Nat) : Fp := [(b, .cells fCells.toArray 67 (0, 0))]
theorem KnownAt.held {w : World} {b : Nat} (h : KnownAt w b) : Held (knownFp b) w := fun x hx => by
  simp only [knownFp, List.mem_singleton] at hx
  subst hx
  exact h
theorem Held.known {w : World} {b : Nat} (h : Held (knownFp b) w) : KnownAt w b := h (b, .cells fCells.toArray 67 (0, 0)) (by simp [knownFp])
theorem known_kin (b : Nat) : Kin 73 (knownFp b) := fun x hx => by
  simp only [knownFp, List.mem_singleton] at hx
  subst hx
  exact ⟨_, _, _, rfl, by decide⟩

theorem f_asc : rowsT.all (fun r => r.2.all fun x => decide (x.toNat < 128)) = true := by decide +kernel
theorem row_asc {r : Nat × List UInt8} (h : r ∈ rowsT) : Asc r.2 := fun j b hb => by
  have := List.all_eq_true.1 (List.all_eq_true.1 f_asc r h) b (List.mem_of_getElem? hb)
  simpa using this

/-- What holds of the rows made so far. -/
def RowsAt (w W : World) (b : Nat) (v : Value) (rs : List Rw) (fp : Fp) : Prop := W.ownsRow w.heap.size 73 2 v rs.length (rCells rs) ∧ RowsOk fp rs ∧ Held fp W ∧ Kin 73 fp ∧ KnownAt W b ∧ w.grownBy W none

theorem RowsAt.keep {w W W' : World} {b : Nat} {v : Value} {rs : List Rw} {fp : Fp} (h : RowsAt w W b v rs fp) (K : W.grownBy W' none) : RowsAt w W' b v rs fp :=
  ⟨owns_keptNone h.1 K, h.2.1, h.2.2.1.none K, h.2.2.2.1, h.2.2.2.2.1.grown K, grown_trans h.2.2.2.2.2 K⟩

theorem RowsAt.next {w w1 w2 w3 : World} {b : Nat} {v fv y3 : Value} {rs : List Rw} {fp fq : Fp} {r : Nat × List UInt8} {o : Obj} (h : RowsAt w w1 b v rs fp) (K2 : w1.grownBy w2 none) (Dn : Does fq fv (rowB r.2)) (Hn : Held fq w2) (Kn : Kin 73 fq)
    (K3 : (w2.alloc o).grownBy w3 v.ownBlock) (O3 : w3.ownsRow w.heap.size 73 2 y3 (rs.length + 1) (rCells rs ++ [.int .u16 (r.1 : Int), fv])) : RowsAt w w3 b y3 (rs ++ [(r, fv)]) (fp ++ fq) := by
  have hA := World.grownBy_alloc w2 o none
  have h2 := (h.keep K2).keep hA
  have Hn2 := Hn.none hA
  have kk := h2.2.2.2.1.app Kn
  refine ⟨?_, (h2.2.1.more (fun x hx => List.mem_append_left _ hx)).snoc (Dn.more (fun x hx => List.mem_append_right _ hx)), (h2.2.2.1.app Hn2).own h2.1 kk K3, kk, (h2.2.2.2.2.1.held.own h2.1 (known_kin b) K3).known, grown_trans_new h2.2.2.2.2.2 K3 (fun z hz => (h2.1.lt z hz).1)⟩
  rw [rCells_snoc, List.length_append]
  exact O3

set_option maxHeartbeats 8000000 in
theorem rows_any (b : Nat) (w : World) (KN : KnownAt w b) :
    Calls Tryd.prog 33 #[.slice (some ⟨b, 0, none⟩) 49 49] w fun e w' => ∃ v rs fp, e = .returned v ∧ rs.map (fun r => r.1) = rowsT ∧ RowsAt w w' b v rs fp := by
  obtain ⟨i0, hi, hz0, hz1, hz2⟩ := info_parts infoR
  have HK : Hid (KnownAt w b) := KN
  clear KN
  obtain ⟨w0, hmk0, O0, G0⟩ := run_make_own (P := Tryd.prog) w w.heap.size 56 73 i0 _ 2 Tryd.underlying56 hi hz0 hz1 .i64 .i64 50 (by rw [hz2]; decide) (by decide) (Nat.le_refl _)
  have hmk : (Instr.makeSlice 56 (.int .i64 0) (.int .i64 50)).run Tryd.prog w = .ok (.slice (some ⟨w.heap.size, 0, none⟩) 0 50) w0 := hmk0
  clear hmk0
  have RA0 : RowsAt w w0 b (.slice (some ⟨w.heap.size, 0, none⟩) 0 50) [] [] := ⟨O0, fun r hr => by simp at hr, fun x hx => by simp at hx, fun x hx => by simp at hx, HK.out.grown G0, G0⟩
  clear O0 G0
  go_enter Tryd.func33, Tryd.ntmps33
  go_wp2
  clear hmk
  go_loopw [3, 12] (fun u i wr => ∃ (j : Nat) (rs : List Rw) (fp : Fp), j ≤ 49 ∧ i = .int .i64 j ∧ Hid (rs.map (fun r => r.1) = fText.take j) ∧ RowsAt w wr b u rs fp) (fun _ i _ => 49 - (intOf i).toNat)
  case atStart => exact ⟨0, [], [], Nat.zero_le _, rfl, rfl, RA0⟩
  case round =>
    clear RA0
    obtain ⟨j, rs, fp, hj, rfl, HR, RA⟩ := hrel
    have hrl : rs.length ≤ 49 := by
      have := congrArg List.length HR.out
      rw [List.length_map, List.length_take] at this
      omega
    by_cases hlt : j < 49
    · have hlt' : (j : Int) < 49 := by omega
      have hjf : j < fText.length := by rw [fText_len]; exact hlt
      obtain ⟨r0, r1⟩ := RA.2.2.2.2.1.row hjf
      have hsh := row_short (List.getElem_mem hjf)
      have hasc := row_asc (List.mem_append_left _ (List.getElem_mem hjf) : fText[j] ∈ rowsT)
      have HR2 : Hid (∀ v : Value, (rs ++ [(fText[j], v)]).map (fun r => r.1) = fText.take (j + 1)) := by
        show ∀ v : Value, (rs ++ [(fText[j], v)]).map (fun r => r.1) = fText.take (j + 1)
        intro v
        rw [List.map_append, HR.out, List.take_succ_eq_append_getElem hjf]
        rfl
      obtain ⟨S, hS⟩ : ∃ S : ByteArray, S = ⟨fText[j].2.toArray⟩ := ⟨_, rfl⟩
      have hsl : sl S = fText[j].2 := by rw [hS, sl_str]
      have hsz : S.size ≤ 20 := by rw [← sl_len, hsl]; exact hsh
      rw [show str fText[j].2 = .string S by rw [hS]] at r1
      generalize fText[j] = row at *
      obtain ⟨rc, rt⟩ := row
      simp only at *
      clear hS hsh hjf HR
      subst hsl
      have CT := fun W => turn_any S W (by omega) hasc
      clear hasc
      have GA := World.grownBy_alloc wr (.cells #[.int .u16 (rc : Int), .string S] 67) none
      have RA1 := RA.keep GA
      have O1 := RA1.1
      have hq0 : ∀ W, (wr.alloc (.cells #[.int .u16 (rc : Int), .string S] 67)).grownBy W none → W.cell? ⟨wr.heap.size, 0, none⟩ = some (.int .u16 (rc : Int)) ∧ W.cell? ⟨wr.heap.size, 1, none⟩ = some (.string S) := fun W K => by
        have h := cv_lit wr 67 [.int .u16 (rc : Int), .string S]
        exact ⟨K.cell (h.2 _ rfl 0 (by simp)) (by simp), K.cell (h.2 _ rfl 1 (by simp)) (by simp)⟩
      have HQ0 : Hid (∀ W, (wr.alloc (.cells #[.int .u16 (rc : Int), .string S] 67)).grownBy W none → W.cell? ⟨wr.heap.size, 0, none⟩ = some (.int .u16 (rc : Int)) ∧ W.cell? ⟨wr.heap.size, 1, none⟩ = some (.string S)) := hq0
      clear hq0 GA RA
      have HRA : Hid (RowsAt w (wr.alloc (.cells #[.int .u16 (rc : Int), .string S] 67)) b u3 rs fp) := RA1
      clear RA1
      have hws := O1.lt
      go_wp2
      go_region_law (first | (refine step_append_cv rfl (.tmp 16) (.tmp 23) 56 rfl 73 i0 _ 2 16 Tryd.underlying56 hi hz0 hz1 hz2 rfl (by decide) w.heap.size u3 rs.length (rCells rs) (by simp [Act.eval]) (by exact (owns_keptNone O1 K2).alloc _) ⟨w2.heap.size, 0, none⟩ 1 1 [.int .u16 (rc : Int), .func (.func n2) #[] lb2] (by simp [Act.eval]) rfl (by exact cv_lit w2 _ _) (by simp [Value.oneCell']) (by unfold maxLen; omega) (by omega) (by have := K2.size; have := HRA.out.2.2.2.2.2.size; simp at *; omega) ?_; intro y3 w3 O3 K3) | (go_simp; go_at_call 43; refine (CT _).mono ?_; rintro e w2 ⟨fv, fq, rfl, ⟨n2, lb2, rfl, he2, D1⟩, Hn, Kn, -, K2'⟩; have D2 : Hid (Does fq (.func (.func n2) #[] lb2) (rowB (sl S))) := ⟨n2, lb2, rfl, he2, D1⟩; have HN2 : Hid (Held fq w2 ∧ Kin 73 fq) := ⟨Hn, Kn⟩; clear D1 he2 Hn Kn; have K2 : (wr.alloc (.cells #[.int .u16 (rc : Int), .string S] 67)).grownBy w2 none := (by first | exact K2' | exact grown_trans (grown_drewN _ 1 _) K2'); dsimp only; obtain ⟨hq1, hq2⟩ := HQ0.out w2 K2))
      all_goals
        have RN : Hid (RowsAt w w3 b y3 (rs ++ [((rc, sl S), .func (.func n2) #[] lb2)]) (fp ++ fq)) := HRA.out.next K2 D2.out HN2.out.1 HN2.out.2 K3 O3
        have HR3 := HR2.out (.func (.func n2) #[] lb2)
        have HR4 : Hid _ := HR3
        clear HR3 K3 O3 K2 K2' D2 HN2 HRA O1 hq1 hq2 HQ0 CT hws r0 r1
        go_wp2
        go_roundw
        case rel => exact ⟨j + 1, _, _, by omega, by go_num, HR4, RN.out⟩
        case measure => simp [intOf]; omega
    · obtain rfl : j = 49 := by omega
      have HR2 : Hid (∀ v : Value, (rs ++ [(((0, rawT), v) : Rw)]).map (fun r => r.1) = rowsT) := by
        show ∀ v : Value, (rs ++ [(((0, rawT), v) : Rw)]).map (fun r => r.1) = rowsT
        intro v
        rw [List.map_append, HR.out, List.take_of_length_le (by rw [fText_len]; omega)]
        rfl
      have CT := fun W => turn_any ⟨#[114, 97, 119, 32, 67, 32, 84, 32, 70, 32, 75]⟩ W (by decide) (row_asc (by simp [rowsT] : (0, rawT) ∈ rowsT))
      have O1 := RA.1
      have HRA : Hid (RowsAt w wr b u3 rs fp) := RA
      clear RA
      go_wp2_with fail
      refine (CT _).mono ?_
      rintro e w2 ⟨fv, fq, rfl, ⟨n2, lb2, rfl, he2, D1⟩, Hn, Kn, -, K2⟩
      have D2 : Hid (Does fq (.func (.func n2) #[] lb2) (rowB rawT)) := ⟨n2, lb2, rfl, he2, D1⟩
      clear D1 he2 CT
      go_wp2_with (at_builtin; refine wpList_append_cv rfl (.tmp 26) (.tmp 29) 56 rfl 73 i0 _ 2 16 Tryd.underlying56 hi hz0 hz1 hz2 rfl (by decide) w.heap.size u3 rs.length (rCells rs) rfl ?r1 (some ⟨w2.heap.size, 0, none⟩) 1 1 [.int .u16 0, .func (.func n2) #[] lb2] rfl rfl (by simp) ?r2 (by simp [Value.oneCell']) ?r3 ?r4 ?r5 ?r6)
      case r1 => exact (owns_keptNone O1 K2).alloc _
      case r2 => exact cv_lit w2 _ _
      case r3 => unfold maxLen; omega
      case r4 => omega
      case r5 => have := K2.size; have := HRA.out.2.2.2.2.2.size; simp; omega
      case r6 =>
        intro y3 w3 O3 K3
        have RN : Hid (RowsAt w w3 b y3 (rs ++ [((0, rawT), .func (.func n2) #[] lb2)]) (fp ++ fq)) := HRA.out.next (r := (0, rawT)) K2 D2.out Hn Kn K3 O3
        have HR4 : Hid _ := HR2.out (.func (.func n2) #[] lb2)
        clear K3 O3 K2 D2 HRA O1 Hn Kn
        go_wp2
        go_ret
        exact ⟨_, _, _, rfl, HR4.out, RN.out⟩

end Go.Proofs.YtcapmbeabfhjoaaDoor
