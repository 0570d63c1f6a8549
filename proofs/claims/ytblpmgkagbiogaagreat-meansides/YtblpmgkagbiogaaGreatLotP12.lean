/-
  The program's own Get. Package addr: Net and In. Package addr: In; bytes.Equal.
-/
import Derived.Test.YtblpmgkagbiogaaGreatLotP2
import Derived.Test.YtblpmgkagbiogaaGreatLotP8
import Derived.Test.YtblpmgkagbiogaaGreatLotP3
namespace Go.Proofs.YtblpmgkagbiogaaGreat
open Go.RowKit
set_option maxRecDepth 100000

set_option maxHeartbeats 400000 in
theorem holds_any (a : Option Addr) (ca n : Nat) (p s : Int) (w : World) (hn : n ≤ 140737488355328) :
    Calls Tryz.prog 54 #[.slice a n ca, .int .i64 p, .int .i64 s] w fun e w' => e = .returned (.bool (okB n p s)) ∧ w = w' := by
  by_cases h : s = 1 ∨ s = 2 ∨ s = 4
  · rcases h with rfl | rfl | rfl
    all_goals
      go_enter Tryz.func54, Tryz.ntmps54
      go_wp2
      · go_ret
        exact ⟨ret_bool (okB_of (by omega)), rfl⟩
      · go_ret
        exact ⟨ret_bool (okB_no (by omega)), rfl⟩
  · have h1 : (s != 1) = true := by rw [bne_iff_ne]; omega
    have h2 : (s != 2) = true := by rw [bne_iff_ne]; omega
    have h3 : (s != 4) = true := by rw [bne_iff_ne]; omega
    go_enter Tryz.func54, Tryz.ntmps54
    go_wp2
    go_ret
    exact ⟨ret_bool (okB_no (by omega)), rfl⟩

set_option maxHeartbeats 400000 in
theorem get_any (a : Option Addr) (ca : Nat) (xs : List UInt8) (p s : Int) (w : World) (ha : Cells w a xs) (hn : xs.length ≤ 140737488355328) :
    Calls Tryz.prog 103 #[.slice a xs.length ca, .int .i64 p, .int .i64 s] w fun e w' => e = .returned (.tuple #[.int .u32 (getV xs p s), .bool (okB xs.length p s)]) ∧ w = w' := by
  cases hok : okB xs.length p s with
  | false =>
    go_enter Tryz.func103, Tryz.ntmps103
    go_wp2_with (go_at_call 54; refine (holds_any a ca xs.length p s _ hn).mono ?_; rintro e w' ⟨rfl, rfl⟩)
    go_ret2
    simp [getV, hok]
  | true =>
    have hy := okB_yes hok
    obtain ⟨P, rfl⟩ := Int.eq_ofNat_of_zero_le hy.2.1
    obtain ⟨S, rfl⟩ : ∃ S : Nat, s = S := ⟨s.toNat, by omega⟩
    have hS : S = 1 ∨ S = 2 ∨ S = 4 := by omega
    have hP : P + S ≤ xs.length := by omega
    clear hy
    go_enter Tryz.func103, Tryz.ntmps103
    go_wp2_with (go_at_call 54; refine (holds_any a ca xs.length P S _ hn).mono ?_; rintro e w' ⟨rfl, rfl⟩)
    go_loop [8, 16, 9] (fun v i _ => ∃ k : Nat, k ≤ S ∧ i = .int .i64 k ∧ v = .int .u32 (numAt xs P k)) (fun _ i _ => S - (intOf i).toNat)
    case atStart => exact ⟨0, Nat.zero_le _, rfl, rfl⟩
    case round =>
      obtain ⟨k, hk, rfl, rfl⟩ := hrel
      by_cases hlt : k < S
      · obtain ⟨b, o, rfl, h1⟩ := ha.addr (k := P + k) (by omega)
        have c1 := h1 (P + k) (by omega)
        clear ha h1
        go_wp2
        go_round
        case rel => exact ⟨k + 1, by omega, by go_num, numAt_step xs P k (by omega) (by omega)⟩
        case measure => simp [intOf]; omega
      · obtain rfl : k = S := by omega
        go_wp2
        go_ret2
        simp [getV, hok]

end Go.Proofs.YtblpmgkagbiogaaGreat

namespace Go.Proofs.YtblpmgkagbiogaaGreat
open Go.RowKit
set_option maxRecDepth 100000

/-- How many of a byte's first bits are kept. -/
def clampB (l : Int) : Nat := min l.toNat 8
/-- The mask of so many bits. -/
def topM (k : Nat) : Nat := 255 - 255 / 2 ^ k

theorem not_shift : ∀ k : Fin 9, IntKind.u8.wrap (-(((255 / 2 ^ k.val : Nat) : Int)) - 1) = ((topM k.val : Nat) : Int) := by decide +kernel

theorem and_top : ∀ (x : Fin 256) (k : Fin 9), bits .and .u8 ((x.val : Nat) : Int) ((topM k.val : Nat) : Int) = (((topB k.val (UInt8.ofNat x.val)).toNat : Nat) : Int) := by decide +kernel

set_option maxHeartbeats 1000000 in
theorem mask_any (l : Int) (w : World) :
    Calls Tryz.prog 141 #[.int .i64 l] w fun e w' => e = .returned (.int .u8 ((topM (clampB l) : Nat) : Int)) ∧ w = w' := by
  by_cases h0 : l ≤ 0
  · have e : clampB l = 0 := by unfold clampB; omega
    rw [e]
    have h1 : ¬ l > 0 := by omega
    have h2 : (if (0 : Int) > l then (0 : Int) else l) = 0 := by split <;> omega
    go_enter Tryz.func141, Tryz.ntmps141
    go_wp2
    go_ret
    exact ⟨rfl, rfl⟩
  · by_cases h8 : 8 ≤ l
    · have e : clampB l = 8 := by unfold clampB; omega
      rw [e]
      have h2 : (if (0 : Int) > l then (0 : Int) else l) = l := by split <;> omega
      have h3 : (if (8 : Int) < l then (8 : Int) else l) = 8 := by split <;> omega
      go_enter Tryz.func141, Tryz.ntmps141
      go_wp2
      go_ret
      exact ⟨rfl, rfl⟩
    · have : l = 1 ∨ l = 2 ∨ l = 3 ∨ l = 4 ∨ l = 5 ∨ l = 6 ∨ l = 7 := by omega
      clear h0 h8
      rcases this with rfl | rfl | rfl | rfl | rfl | rfl | rfl
      all_goals
        go_enter Tryz.func141, Tryz.ntmps141
        go_wp2
        go_ret
        exact ⟨rfl, rfl⟩

theorem top_not (k : Nat) (x : UInt8) (h : 8 ≤ k) : topB k x = topB 8 x := by
  unfold topB
  rw [if_neg (by omega), if_neg (by omega), if_neg (by omega), if_neg (by omega)]
theorem top_clamp (n j : Nat) (x : UInt8) : topB (clampB ((n : Int) - 8 * (j : Int))) x = topB (n - 8 * j) x := by
  have e : ((n : Int) - 8 * (j : Int)).toNat = n - 8 * j := by omega
  unfold clampB
  rw [e]
  by_cases h : 8 ≤ n - 8 * j
  · rw [show min (n - 8 * j) 8 = 8 by omega, ← top_not _ x h]
  · rw [show min (n - 8 * j) 8 = n - 8 * j by omega]

/-- What stands in the net so far. -/
def netTo (n : Nat) (xs : List UInt8) (j : Nat) : List UInt8 := (maskV n xs).take j ++ List.replicate (xs.length - j) 0
theorem netTo_len (n : Nat) (xs : List UInt8) (j : Nat) (h : j ≤ xs.length) : (netTo n xs j).length = xs.length := by
  unfold netTo
  rw [List.length_append, List.length_take, List.length_replicate, mask_len]
  omega
theorem netTo_next (n : Nat) (xs : List UInt8) (j : Nat) (h : j < xs.length) : netTo n xs (j + 1) = (netTo n xs j).set j (topB (n - 8 * j) xs[j]) := by
  have hl : (List.take j (maskV n xs)).length = j := by rw [List.length_take, mask_len]; omega
  unfold netTo
  rw [List.set_append_right _ _ (by omega), hl, Nat.sub_self, List.take_succ_eq_append_getElem (by rw [mask_len]; exact h), mask_get n xs j h, show xs.length - j = (xs.length - (j + 1)) + 1 by omega, List.replicate_succ, List.set_cons_zero]
  simp

set_option maxRecDepth 100000 in
set_option maxHeartbeats 2000000 in
theorem net_any (a : Option Addr) (ca : Nat) (xs : List UInt8) (bits : Int) (w : World) (ha : Cells w a xs) (hc0 : a = none → ca = 0) (hx : xs.length ≤ 140737488355328) :
    Calls Tryz.prog 126 #[.slice a xs.length ca, .int .i64 bits] w fun e w' => ∃ v, e = .returned (.tuple #[v, .int .i64 (netE xs.length bits)]) ∧ Owns w' w.heap.size v (netV xs bits) ∧ w.grownBy w' none := by
  obtain ⟨i0, hi, hz0, hz1, hz2⟩ := info_parts info5
  by_cases h4 : xs.length ≠ 4 ∧ xs.length ≠ 16
  · have e : netE xs.length bits = 60 := by rw [netE, if_pos h4]
    have e2 : netV xs bits = [] := by rw [netV, if_neg (by rw [e]; decide)]
    rw [e, e2]
    have b1 : ((xs.length : Int) != 4) = true := by rw [bne_iff_ne]; omega
    have b2 : ((xs.length : Int) != 16) = true := by rw [bne_iff_ne]; omega
    clear ha e e2
    go_enter Tryz.func126, Tryz.ntmps126
    go_wp2
    go_ret2
    exact ⟨_, rfl, World.ownsRow_nil _ _ _ _, World.grownBy.refl _ _⟩
  · have hlen : xs.length = 4 ∨ xs.length = 16 := by omega
    have hb : ((xs.length : Int) != 4) = false ∨ (((xs.length : Int) != 4) = true ∧ ((xs.length : Int) != 16) = false) := by
      rcases hlen with h | h
      · left; rw [h]; rfl
      · right; rw [h]; exact ⟨rfl, rfl⟩
    have hl16 : xs.length ≤ 16 := by omega
    by_cases hbad : bits < 0 ∨ 8 * (xs.length : Int) < bits
    · have e : netE xs.length bits = 61 := by rw [netE, if_neg h4, if_pos hbad]
      have e2 : netV xs bits = [] := by rw [netV, if_neg (by rw [e]; decide)]
      rw [e, e2]
      have hbb : bits < 0 ∨ (¬ bits < 0 ∧ 8 * (xs.length : Int) < bits) := by omega
      clear ha e e2 h4 hlen hbad
      rcases hb with hb | ⟨hb, hb2⟩
      all_goals
        rcases hbb with hq | ⟨hq, hq2⟩
        all_goals
          go_enter Tryz.func126, Tryz.ntmps126
          go_wp2
          go_ret2
          exact ⟨_, rfl, World.ownsRow_nil _ _ _ _, World.grownBy.refl _ _⟩
    · have e : netE xs.length bits = 0 := by rw [netE, if_neg h4, if_neg hbad]
      have e2 : netV xs bits = maskV bits.toNat xs := by rw [netV, if_pos e]
      rw [e, e2]
      have hq : ¬ bits < 0 := by omega
      have hq2 : ¬ 8 * (xs.length : Int) < bits := by omega
      obtain ⟨n, rfl⟩ := Int.eq_ofNat_of_zero_le (show 0 ≤ bits by omega)
      rw [Int.toNat_natCast]
      have H : Hid (Cells w a xs) := ha
      have hn : n ≤ 128 := by omega
      clear ha e e2 h4 hlen hbad
      rcases hb with hb | ⟨hb, hb2⟩
      all_goals
        go_enter Tryz.func126, Tryz.ntmps126
        go_wp2_with (at_make; refine wpList_make_full _ rfl (.tmp 27) (.tmp 27) 26 rfl w.heap.size 5 i0 (.int .u8 0) 1 Tryz.underlying26 hi hz0 hz1 .i64 .i64 (xs.length : Int) (xs.length : Int) xs.length rfl rfl rfl rfl ?q1 ?q2 ?q3 ?q4)
        case q1 => omega
        case q2 => unfold maxLen; omega
        case q4 =>
          intro w2 h2 K2
          rw [toList_madeCells_one] at h2
          have R2 : w2.ownsRow w.heap.size 5 1 (.slice (some ⟨w.heap.size, 0, none⟩) xs.length xs.length) xs.length ((netTo n xs 0).map bv) := by
            have : netTo n xs 0 = List.replicate xs.length 0 := by simp [netTo]
            rw [this]
            simpa [bv] using h2
          clear h2
          obtain ⟨g, hg, hgw⟩ : ∃ g, w.heap.size = g ∧ w.heap.size ≤ g := ⟨_, rfl, Nat.le_refl _⟩
          rw [show (Value.slice (some ⟨w.heap.size, 0, none⟩) xs.length xs.length) = .slice (some ⟨g, 0, none⟩) xs.length xs.length by rw [hg]] at R2
          rw [show (Value.slice (some ⟨w.heap.size, 0, none⟩) xs.length xs.length) = .slice (some ⟨g, 0, none⟩) xs.length xs.length by rw [hg]]
          clear hg
          go_wp2
          go_loopw [31] (fun i wr => ∃ j : Nat, j ≤ xs.length ∧ i = .int .i64 j ∧ wr.ownsRow w.heap.size 5 1 (.slice (some ⟨g, 0, none⟩) xs.length xs.length) xs.length ((netTo n xs j).map bv) ∧ w.grownBy wr none) (fun i _ => xs.length - (intOf i).toNat)
          case atStart => exact ⟨0, Nat.zero_le _, rfl, R2, K2⟩
          case round =>
            clear R2 K2
            obtain ⟨j, hj, rfl, R, G⟩ := hrel
            by_cases hlt : j < xs.length
            · have hl : (j : Int) < (xs.length : Int) := by omega
              obtain ⟨b, o, rfl, hc⟩ := H.out.addr hlt
              have hcj : wr.cell? ⟨b, o + j, none⟩ = some (.int .u8 (xs[j].toNat : Int)) := G.cell (hc j hlt) (by simp)
              have bl := (BlkN.ofRow R).1
              have hfr := bl.free j
              obtain ⟨u0, hu0⟩ := bl.cell (i := j) (by omega)
              have hy := xs[j].toNat_lt
              have HB := and_top ⟨xs[j].toNat, hy⟩ ⟨clampB ((n : Int) - 8 * (j : Int)), by unfold clampB; omega⟩
              rw [top_clamp] at HB
              simp only [UInt8.ofNat_toNat] at HB
              have R3 := (R.stored j (.int .u8 ((topB (n - 8 * j) xs[j]).toNat : Int))).1
              rw [show (((netTo n xs j).map bv).set j (.int .u8 ((topB (n - 8 * j) xs[j]).toNat : Int))) = (netTo n xs (j + 1)).map bv by rw [netTo_next n xs j hlt, List.map_set]; rfl] at R3
              have G3 := grown_setCell G ⟨g, j, none⟩ (.int .u8 ((topB (n - 8 * j) xs[j]).toNat : Int)) (.inr hgw)
              generalize (topB (n - 8 * j) xs[j]).toNat = t at *
              generalize xs[j].toNat = y at *
              clear hc bl R G
              go_wp2_with (go_at_call 141; refine (mask_any _ _).mono ?_; rintro e w' ⟨rfl, rfl⟩)
              go_roundw
              case rel => exact ⟨j + 1, by omega, by go_num, R3, G3⟩
              case measure => simp [intOf]; omega
            · obtain rfl : j = xs.length := by omega
              have R4 : Owns wr w.heap.size (.slice (some ⟨g, 0, none⟩) xs.length xs.length) (maskV n xs) := by
                unfold Owns
                rw [mask_len]
                have : netTo n xs xs.length = maskV n xs := by
                  unfold netTo
                  rw [Nat.sub_self, List.replicate_zero, List.append_nil, List.take_of_length_le (by rw [mask_len]; exact Nat.le_refl _)]
                rw [this] at R
                exact R
              go_wp2
              go_ret2
              exact ⟨_, rfl, R4, G⟩

end Go.Proofs.YtblpmgkagbiogaaGreat

namespace Go.Proofs.YtblpmgkagbiogaaGreat
open Go.RowKit
set_option maxRecDepth 100000

/-- 'string(b)', b bytes that lie somewhere. -/
theorem run_strC {P : Program} {w : World} {ao : Option Addr} {cap : Nat} {ys : List UInt8} (hc : Cells w ao ys) (src dst : TypeId) (hs : P.underlying src = some (.slice 5)) (he : P.underlying 5 = some (.int .u8)) (hd : P.underlying dst = some .string) :
    (convert src dst (.slice ao ys.length cap)).run P w = .ok (.string ⟨ys.toArray⟩) w := by
  cases ao with
  | none =>
    have e := hc.1 rfl
    subst e
    show (convert src dst (.slice none 0 cap)).run P w = _
    rw [run_convert_bytes_string w src dst 5 none 0 cap hs he hd]
    simp [Conv.bytesToString]
    rfl
  | some ad => exact run_convert_bytes_back w src dst 5 ad cap ys hs he hd (fun j hj => hc.2 ad rfl j hj)

set_option maxHeartbeats 1000000 in
theorem equal_any (a b : Option Addr) (ca cb : Nat) (xs ys : List UInt8) (w : World) (ha : Cells w a xs) (hb : Cells w b ys) :
    Calls Tryz.prog 127 #[.slice a xs.length ca, .slice b ys.length cb] w fun e w' => e = .returned (.bool (decide (xs = ys))) ∧ w = w' := by
  have h1 := run_strC (P := Tryz.prog) (cap := ca) ha 26 9 Tryz.underlying26 Tryz.underlying5 Tryz.underlying9
  have h2 := run_strC (P := Tryz.prog) (cap := cb) hb 26 9 Tryz.underlying26 Tryz.underlying5 Tryz.underlying9
  clear ha hb
  obtain ⟨S, hS⟩ : ∃ S : ByteArray, ⟨xs.toArray⟩ = S := ⟨_, rfl⟩
  obtain ⟨T, hT⟩ : ∃ T : ByteArray, ⟨ys.toArray⟩ = T := ⟨_, rfl⟩
  have e : decide (xs = ys) = (S.toList == T.toList) := by
    rw [← hS, ← hT, ByteArray.toList_eq, ByteArray.toList_eq]
    show decide (xs = ys) = (xs == ys)
    by_cases h : xs = ys
    · subst h; simp
    · rw [decide_eq_false h, Eq.comm, beq_eq_false_iff_ne]; exact h
  rw [e]
  rw [hS] at h1
  rw [hT] at h2
  clear hS hT e
  go_enter Tryz.func127, Tryz.ntmps127
  go_wp2
  go_ret
  exact ⟨rfl, rfl⟩

end Go.Proofs.YtblpmgkagbiogaaGreat
