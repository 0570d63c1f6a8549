/-
  Package addr: Net and In. Package addr: In; bytes.Equal. Package mean as landed: what a view tells.
-/
import Derived.Test.YtnojpepjloceoaaGreatLotP17
import Derived.Test.YtnojpepjloceoaaGreatLotP15
import Derived.Test.YtnojpepjloceoaaGreatLotP20
import Derived.Test.YtnojpepjloceoaaGreatLotP5
import Derived.BigQuiet
import Derived.Deep.QuietTactic
namespace Go.Proofs.YtnojpepjloceoaaGreat
open Go.RowKit
set_option maxRecDepth 100000

/-- How many of a byte's first bits are kept. -/
def clampB (l : Int) : Nat := min l.toNat 8
/-- The mask of so many bits. -/
def topM (k : Nat) : Nat := 255 - 255 / 2 ^ k

theorem not_shift : ∀ k : Fin 9, IntKind.u8.wrap (-(((255 / 2 ^ k.val : Nat) : Int)) - 1) = ((topM k.val : Nat) : Int) := by decide +kernel

theorem and_top : ∀ (x : Fin 256) (k : Fin 9), bits .and .u8 ((x.val : Nat) : Int) ((topM k.val : Nat) : Int) = (((topB k.val (UInt8.ofNat x.val)).toNat : Nat) : Int) := by decide +kernel

set_option maxHeartbeats 1000000 in
theorem mask_any (l : Int) (w : World) :
    Calls Tryz.prog 141 #[.int .i64 l] w fun e w' => e = .returned (.int .u8 ((topM (clampB l) : Nat) : Int)) ∧ w = w' := by
  by_cases h0 : l ≤ 0
  · have e : clampB l = 0 := by unfold clampB; omega
    rw [e]
    have h1 : ¬ l > 0 := by omega
    have h2 : (if (0 : Int) > l then (0 : Int) else l) = 0 := by split <;> omega
    go_enter Tryz.func141, Tryz.ntmps141
    go_wp2
    go_ret
    exact ⟨rfl, rfl⟩
  · by_cases h8 : 8 ≤ l
    · have e : clampB l = 8 := by unfold clampB; omega
      rw [e]
      have h2 : (if (0 : Int) > l then (0 : Int) else l) = l := by split <;> omega
      have h3 : (if (8 : Int) < l then (8 : Int) else l) = 8 := by split <;> omega
      go_enter Tryz.func141, Tryz.ntmps141
      go_wp2
      go_ret
      exact ⟨rfl, rfl⟩
    · have : l = 1 ∨ l = 2 ∨ l = 3 ∨ l = 4 ∨ l = 5 ∨ l = 6 ∨ l = 7 := by omega
      clear h0 h8
      rcases this with rfl | rfl | rfl | rfl | rfl | rfl | rfl
      all_goals
        go_enter Tryz.func141, Tryz.ntmps141
        go_wp2
        go_ret
        exact ⟨rfl, rfl⟩

theorem top_not (k : Nat) (x : UInt8) (h : 8 ≤ k) : topB k x = topB 8 x := by
  unfold topB
  rw [if_neg (by omega), if_neg (by omega), if_neg (by omega), if_neg (by omega)]
theorem top_clamp (n j : Nat) (x : UInt8) : topB (clampB ((n : Int) - 8 * (j : Int))) x = topB (n - 8 * j) x := by
  have e : ((n : Int) - 8 * (j : Int)).toNat = n - 8 * j := by omega
  unfold clampB
  rw [e]
  by_cases h : 8 ≤ n - 8 * j
  · rw [show min (n - 8 * j) 8 = 8 by omega, ← top_not _ x h]
  · rw [show min (n - 8 * j) 8 = n - 8 * j by omega]

/-- What stands in the net so far. -/
def netTo (n : Nat) (xs : List UInt8) (j : Nat) : List UInt8 := (maskV n xs).take j ++ List.replicate (xs.length - j) 0
theorem netTo_len (n : Nat) (xs : List UInt8) (j : Nat) (h : j ≤ xs.length) : (netTo n xs j).length = xs.length := by
  unfold netTo
  rw [List.length_append, List.length_take, List.length_replicate, mask_len]
  omega
theorem netTo_next (n : Nat) (xs : List UInt8) (j : Nat) (h : j < xs.length) : netTo n xs (j + 1) = (netTo n xs j).set j (topB (n - 8 * j) xs[j]) := by
  have hl : (List.take j (maskV n xs)).length = j := by rw [List.length_take, mask_len]; omega
  unfold netTo
  rw [List.set_append_right _ _ (by omega), hl, Nat.sub_self, List.take_succ_eq_append_getElem (by rw [mask_len]; exact h), mask_get n xs j h, show xs.length - j = (xs.length - (j + 1)) + 1 by omega, List.replicate_succ, List.set_cons_zero]
  simp

set_option maxRecDepth 100000 in
set_option maxHeartbeats 2000000 in
theorem net_any (a : Option Addr) (ca : Nat) (xs : List UInt8) (bits : Int) (w : World) (ha : Cells w a xs) (hc0 : a = none → ca = 0) (hx : xs.length ≤ 140737488355328) :
    Calls Tryz.prog 126 #[.slice a xs.length ca, .int .i64 bits] w fun e w' => ∃ v, e = .returned (.tuple #[v, .int .i64 (netE xs.length bits)]) ∧ Owns w' w.heap.size v (netV xs bits) ∧ w.grownBy w' none := by
  obtain ⟨i0, hi, hz0, hz1, hz2⟩ := info_parts info5
  by_cases h4 : xs.length ≠ 4 ∧ xs.length ≠ 16
  · have e : netE xs.length bits = 60 := by rw [netE, if_pos h4]
    have e2 : netV xs bits = [] := by rw [netV, if_neg (by rw [e]; decide)]
    rw [e, e2]
    have b1 : ((xs.length : Int) != 4) = true := by rw [bne_iff_ne]; omega
    have b2 : ((xs.length : Int) != 16) = true := by rw [bne_iff_ne]; omega
    clear ha e e2
    go_enter Tryz.func126, Tryz.ntmps126
    go_wp2
    go_ret2
    exact ⟨_, rfl, World.ownsRow_nil _ _ _ _, World.grownBy.refl _ _⟩
  · have hlen : xs.length = 4 ∨ xs.length = 16 := by omega
    have hb : ((xs.length : Int) != 4) = false ∨ (((xs.length : Int) != 4) = true ∧ ((xs.length : Int) != 16) = false) := by
      rcases hlen with h | h
      · left; rw [h]; rfl
      · right; rw [h]; exact ⟨rfl, rfl⟩
    have hl16 : xs.length ≤ 16 := by omega
    by_cases hbad : bits < 0 ∨ 8 * (xs.length : Int) < bits
    · have e : netE xs.length bits = 61 := by rw [netE, if_neg h4, if_pos hbad]
      have e2 : netV xs bits = [] := by rw [netV, if_neg (by rw [e]; decide)]
      rw [e, e2]
      have hbb : bits < 0 ∨ (¬ bits < 0 ∧ 8 * (xs.length : Int) < bits) := by omega
      clear ha e e2 h4 hlen hbad
      rcases hb with hb | ⟨hb, hb2⟩
      all_goals
        rcases hbb with hq | ⟨hq, hq2⟩
        all_goals
          go_enter Tryz.func126, Tryz.ntmps126
          go_wp2
          go_ret2
          exact ⟨_, rfl, World.ownsRow_nil _ _ _ _, World.grownBy.refl _ _⟩
    · have e : netE xs.length bits = 0 := by rw [netE, if_neg h4, if_neg hbad]
      have e2 : netV xs bits = maskV bits.toNat xs := by rw [netV, if_pos e]
      rw [e, e2]
      have hq : ¬ bits < 0 := by omega
      have hq2 : ¬ 8 * (xs.length : Int) < bits := by omega
      obtain ⟨n, rfl⟩ := Int.eq_ofNat_of_zero_le (show 0 ≤ bits by omega)
      rw [Int.toNat_natCast]
      have H : Hid (Cells w a xs) := ha
      have hn : n ≤ 128 := by omega
      clear ha e e2 h4 hlen hbad
      rcases hb with hb | ⟨hb, hb2⟩
      all_goals
        go_enter Tryz.func126, Tryz.ntmps126
        go_wp2_with (at_make; refine wpList_make_full _ rfl (.tmp 27) (.tmp 27) 26 rfl w.heap.size 5 i0 (.int .u8 0) 1 Tryz.underlying26 hi hz0 hz1 .i64 .i64 (xs.length : Int) (xs.length : Int) xs.length rfl rfl rfl rfl ?q1 ?q2 ?q3 ?q4)
        case q1 => omega
        case q2 => unfold maxLen; omega
        case q4 =>
          intro w2 h2 K2
          rw [toList_madeCells_one] at h2
          have R2 : w2.ownsRow w.heap.size 5 1 (.slice (some ⟨w.heap.size, 0, none⟩) xs.length xs.length) xs.length ((netTo n xs 0).map bv) := by
            have : netTo n xs 0 = List.replicate xs.length 0 := by simp [netTo]
            rw [this]
            simpa [bv] using h2
          clear h2
          obtain ⟨g, hg, hgw⟩ : ∃ g, w.heap.size = g ∧ w.heap.size ≤ g := ⟨_, rfl, Nat.le_refl _⟩
          rw [show (Value.slice (some ⟨w.heap.size, 0, none⟩) xs.length xs.length) = .slice (some ⟨g, 0, none⟩) xs.length xs.length by rw [hg]] at R2
          rw [show (Value.slice (some ⟨w.heap.size, 0, none⟩) xs.length xs.length) = .slice (some ⟨g, 0, none⟩) xs.length xs.length by rw [hg]]
          clear hg
          go_wp2
          go_loopw [31] (fun i wr => ∃ j : Nat, j ≤ xs.length ∧ i = .int .i64 j ∧ wr.ownsRow w.heap.size 5 1 (.slice (some ⟨g, 0, none⟩) xs.length xs.length) xs.length ((netTo n xs j).map bv) ∧ w.grownBy wr none) (fun i _ => xs.length - (intOf i).toNat)
          case atStart => exact ⟨0, Nat.zero_le _, rfl, R2, K2⟩
          case round =>
            clear R2 K2
            obtain ⟨j, hj, rfl, R, G⟩ := hrel
            by_cases hlt : j < xs.length
            · have hl : (j : Int) < (xs.length : Int) := by omega
              obtain ⟨b, o, rfl, hc⟩ := H.out.addr hlt
              have hcj : wr.cell? ⟨b, o + j, none⟩ = some (.int .u8 (xs[j].toNat : Int)) := G.cell (hc j hlt) (by simp)
              have bl := (BlkN.ofRow R).1
              have hfr := bl.free j
              obtain ⟨u0, hu0⟩ := bl.cell (i := j) (by omega)
              have hy := xs[j].toNat_lt
              have HB := and_top ⟨xs[j].toNat, hy⟩ ⟨clampB ((n : Int) - 8 * (j : Int)), by unfold clampB; omega⟩
              rw [top_clamp] at HB
              simp only [UInt8.ofNat_toNat] at HB
              have R3 := (R.stored j (.int .u8 ((topB (n - 8 * j) xs[j]).toNat : Int))).1
              rw [show (((netTo n xs j).map bv).set j (.int .u8 ((topB (n - 8 * j) xs[j]).toNat : Int))) = (netTo n xs (j + 1)).map bv by rw [netTo_next n xs j hlt, List.map_set]; rfl] at R3
              have G3 := grown_setCell G ⟨g, j, none⟩ (.int .u8 ((topB (n - 8 * j) xs[j]).toNat : Int)) (.inr hgw)
              generalize (topB (n - 8 * j) xs[j]).toNat = t at *
              generalize xs[j].toNat = y at *
              clear hc bl R G
              go_wp2_with (go_at_call 141; refine (mask_any _ _).mono ?_; rintro e w' ⟨rfl, rfl⟩)
              go_roundw
              case rel => exact ⟨j + 1, by omega, by go_num, R3, G3⟩
              case measure => simp [intOf]; omega
            · obtain rfl : j = xs.length := by omega
              have R4 : Owns wr w.heap.size (.slice (some ⟨g, 0, none⟩) xs.length xs.length) (maskV n xs) := by
                unfold Owns
                rw [mask_len]
                have : netTo n xs xs.length = maskV n xs := by
                  unfold netTo
                  rw [Nat.sub_self, List.replicate_zero, List.append_nil, List.take_of_length_le (by rw [mask_len]; exact Nat.le_refl _)]
                rw [this] at R
                exact R
              go_wp2
              go_ret2
              exact ⟨_, rfl, R4, G⟩

end Go.Proofs.YtnojpepjloceoaaGreat

namespace Go.Proofs.YtnojpepjloceoaaGreat
open Go.RowKit
set_option maxRecDepth 100000

/-- 'string(b)', b bytes that lie somewhere. -/
theorem run_strC {P : Program} {w : World} {ao : Option Addr} {cap : Nat} {ys : List UInt8} (hc : Cells w ao ys) (src dst : TypeId) (hs : P.underlying src = some (.slice 5)) (he : P.underlying 5 = some (.int .u8)) (hd : P.underlying dst = some .string) :
    (convert src dst (.slice ao ys.length cap)).run P w = .ok (.string ⟨ys.toArray⟩) w := by
  cases ao with
  | none =>
    have e := hc.1 rfl
    subst e
    show (convert src dst (.slice none 0 cap)).run P w = _
    rw [run_convert_bytes_string w src dst 5 none 0 cap hs he hd]
    simp [Conv.bytesToString]
    rfl
  | some ad => exact run_convert_bytes_back w src dst 5 ad cap ys hs he hd (fun j hj => hc.2 ad rfl j hj)

set_option maxHeartbeats 1000000 in
theorem equal_any (a b : Option Addr) (ca cb : Nat) (xs ys : List UInt8) (w : World) (ha : Cells w a xs) (hb : Cells w b ys) :
    Calls Tryz.prog 127 #[.slice a xs.length ca, .slice b ys.length cb] w fun e w' => e = .returned (.bool (decide (xs = ys))) ∧ w = w' := by
  have h1 := run_strC (P := Tryz.prog) (cap := ca) ha 26 9 Tryz.underlying26 Tryz.underlying5 Tryz.underlying9
  have h2 := run_strC (P := Tryz.prog) (cap := cb) hb 26 9 Tryz.underlying26 Tryz.underlying5 Tryz.underlying9
  clear ha hb
  obtain ⟨S, hS⟩ : ∃ S : ByteArray, ⟨xs.toArray⟩ = S := ⟨_, rfl⟩
  obtain ⟨T, hT⟩ : ∃ T : ByteArray, ⟨ys.toArray⟩ = T := ⟨_, rfl⟩
  have e : decide (xs = ys) = (S.toList == T.toList) := by
    rw [← hS, ← hT, ByteArray.toList_eq, ByteArray.toList_eq]
    show decide (xs = ys) = (xs == ys)
    by_cases h : xs = ys
    · subst h; simp
    · rw [decide_eq_false h, Eq.comm, beq_eq_false_iff_ne]; exact h
  rw [e]
  rw [hS] at h1
  rw [hT] at h2
  clear hS hT e
  go_enter Tryz.func127, Tryz.ntmps127
  go_wp2
  go_ret
  exact ⟨rfl, rfl⟩

end Go.Proofs.YtnojpepjloceoaaGreat

namespace Go.Proofs.YtnojpepjloceoaaGreat
open Go.RowKit
set_option maxRecDepth 100000

/-- A view on its way, with the frame's bytes. -/
def viewC (s : Sg) (a : Option Addr) (ca : Nat) : Array Value := #[.int .u32 (s.v.proto : Int), .bool s.v.multi, .bool s.v.beg, .bool s.v.fin, .int .u32 (s.v.seq : Int), .int .i64 (s.v.pos : Int), .int .i64 (s.v.net : Int), .int .i64 (s.v.next : Int), .int .i64 (s.v.load : Int), .int .i64 s.way, .slice a s.b.length ca]
theorem box_view (s : Sg) (a : Option Addr) (ca : Nat) (W : World) : (Instr.box 86 (.agg (viewC s a ca))).run Tryz.prog W = .ok (.pointer (some ⟨W.heap.size, 0, none⟩)) (W.alloc (.cells (viewC s a ca) 86)) := by kernel_rfl
theorem view_size (s : Sg) (a : Option Addr) (ca : Nat) : (Tryz.prog.info? 86).map (·.size) = some (viewC s a ca).size := by kernel_rfl
/-- The view in its block. -/
def VB (w : World) (B : Nat) (s : Sg) (a : Option Addr) (ca : Nat) : Prop := VAt w B 86 (viewC s a ca)
section
variable {w w' : World} {B : Nat} {s : Sg} {a : Option Addr} {ca : Nat}
theorem VB.vat (h : VB w B s a ca) : VAt w B 86 (viewC s a ca) := h
theorem VB.kept (h : VB w B s a ca) (K : w.grownBy w' none) : VB w' B s a ca := VAt.kept h K
theorem VB.proto (h : VB w B s a ca) : w.cell? ⟨B, 0, none⟩ = some (.int .u32 (s.v.proto : Int)) := VAt.cell h 0
theorem VB.multi (h : VB w B s a ca) : w.cell? ⟨B, 1, none⟩ = some (.bool s.v.multi) := VAt.cell h 1
theorem VB.pos (h : VB w B s a ca) : w.cell? ⟨B, 5, none⟩ = some (.int .i64 (s.v.pos : Int)) := VAt.cell h 5
theorem VB.net (h : VB w B s a ca) : w.cell? ⟨B, 6, none⟩ = some (.int .i64 (s.v.net : Int)) := VAt.cell h 6
theorem VB.next (h : VB w B s a ca) : w.cell? ⟨B, 7, none⟩ = some (.int .i64 (s.v.next : Int)) := VAt.cell h 7
theorem VB.load (h : VB w B s a ca) : w.cell? ⟨B, 8, none⟩ = some (.int .i64 (s.v.load : Int)) := VAt.cell h 8
theorem VB.way (h : VB w B s a ca) : w.cell? ⟨B, 9, none⟩ = some (.int .i64 s.way) := VAt.cell h 9
theorem VB.frame (h : VB w B s a ca) : w.cell? ⟨B, 10, none⟩ = some (.slice a s.b.length ca) := VAt.cell h 10
theorem VB.alloc (w : World) (s : Sg) (a : Option Addr) (ca : Nat) : VB (w.alloc (.cells (viewC s a ca) 86)) w.heap.size s a ca := VAt.alloc _ _ _
end
theorem cast_eq (x k : Nat) : (((x : Nat) : Int) == ((k : Nat) : Int)) = decide (x = k) := by rw [Bool.eq_iff_iff]; simp; omega

set_option maxHeartbeats 400000 in
theorem vlength_any (s : Sg) (a : Option Addr) (ca : Nat) (w : World) (hb : s.b.length ≤ 65535) : Calls Tryz.prog 166 #[.agg (viewC s a ca)] w fun e w' => e = .returned (.int .u32 (s.b.length : Int)) ∧ w.grownBy w' none := by
  have hq : (s.b.length : Int) % 4294967296 = (s.b.length : Int) := by omega
  have HBX := box_view s a ca
  have h1 := VB.alloc w s a ca
  have h3 := World.grownBy_alloc w (.cells (viewC s a ca) 86) none
  have c := h1.frame
  obtain ⟨X, hX⟩ : ∃ X, viewC s a ca = X := ⟨_, rfl⟩
  rw [hX] at HBX ⊢
  go_enter Tryz.func166, Tryz.ntmps166
  go_upto_region 1 with fail
  rw [← hX] at *
  generalize w.alloc (.cells (viewC s a ca) 86) = w1 at *
  generalize w.heap.size = B at *
  clear HBX hX X
  clear h1
  go_wp2
  go_ret
  exact ⟨ret_int (by omega), h3⟩

set_option maxHeartbeats 400000 in
theorem vgoes_any (s : Sg) (a : Option Addr) (ca : Nat) (k : Int) (w : World) : Calls Tryz.prog 164 #[.agg (viewC s a ca), .int .i64 k] w fun e w' => e = .returned (.bool (decide (s.way = k))) ∧ w.grownBy w' none := by
  have HBX := box_view s a ca
  have h1 := VB.alloc w s a ca
  have h3 := World.grownBy_alloc w (.cells (viewC s a ca) 86) none
  have c := h1.way
  obtain ⟨X, hX⟩ : ∃ X, viewC s a ca = X := ⟨_, rfl⟩
  rw [hX] at HBX ⊢
  go_enter Tryz.func164, Tryz.ntmps164
  go_upto_region 1 with fail
  rw [← hX] at *
  generalize w.alloc (.cells (viewC s a ca) 86) = w1 at *
  generalize w.heap.size = B at *
  clear HBX hX X
  clear h1
  go_wp2
  go_ret
  exact ⟨ret_bool (by rw [Bool.eq_iff_iff]; simp), h3⟩

set_option maxHeartbeats 400000 in
theorem vspeaks_any (s : Sg) (a : Option Addr) (ca : Nat) (k : Nat) (w : World) : Calls Tryz.prog 168 #[.agg (viewC s a ca), .int .u32 (k : Int)] w fun e w' => e = .returned (.bool (decide (s.v.proto = k))) ∧ w.grownBy w' none := by
  have HBX := box_view s a ca
  have h1 := VB.alloc w s a ca
  have h3 := World.grownBy_alloc w (.cells (viewC s a ca) 86) none
  have c := h1.proto
  obtain ⟨X, hX⟩ : ∃ X, viewC s a ca = X := ⟨_, rfl⟩
  rw [hX] at HBX ⊢
  go_enter Tryz.func168, Tryz.ntmps168
  go_upto_region 1 with fail
  rw [← hX] at *
  generalize w.alloc (.cells (viewC s a ca) 86) = w1 at *
  generalize w.heap.size = B at *
  clear HBX hX X
  clear h1
  go_wp2
  go_ret
  exact ⟨ret_bool (by first | rfl | (rw [Bool.eq_iff_iff]; simp; try omega)), h3⟩

def wrdM (net next proto : Nat) (multi : Bool) (k : Int) : Bool := wordM ⟨proto, multi, false, false, 0, 0, net, next, 0⟩ k
theorem wrd_eq (v : Vw) (k : Int) : wordM v k = wrdM v.net v.next v.proto v.multi k := rfl
set_option maxHeartbeats 4000000 in
theorem vis_any (s : Sg) (a : Option Addr) (ca : Nat) (k : Int) (w : World) : Calls Tryz.prog 165 #[.agg (viewC s a ca), .int .i64 k] w fun e w' => e = .returned (.bool (wordM s.v k)) ∧ w.grownBy w' none := by
  have HBX := box_view s a ca
  have h1 := VB.alloc w s a ca
  have h3 := World.grownBy_alloc w (.cells (viewC s a ca) 86) none
  have c0 := h1.proto
  have c1 := h1.multi
  have c6 := h1.net
  have c7 := h1.next
  rw [wrd_eq]
  obtain ⟨X, hX⟩ : ∃ X, viewC s a ca = X := ⟨_, rfl⟩
  rw [hX] at HBX h3 c0 c1 c6 c7 ⊢
  clear hX h1
  generalize s.v.net = net at *
  generalize s.v.next = next at *
  generalize s.v.proto = proto at *
  generalize s.v.multi = multi at *
  have : k = 2 ∨ k = 3 ∨ k = 4 ∨ k = 5 ∨ k = 6 ∨ k = 7 ∨ k = 8 ∨ k = 9 ∨ k = 10 ∨ k = 11 ∨ k = 12 ∨ k = 13 ∨ (k ≠ 2 ∧ k ≠ 3 ∧ k ≠ 4 ∧ k ≠ 5 ∧ k ≠ 6 ∧ k ≠ 7 ∧ k ≠ 8 ∧ k ≠ 9 ∧ k ≠ 10 ∧ k ≠ 11 ∧ k ≠ 12 ∧ k ≠ 13) := by omega
  rcases this with rfl | rfl | rfl | rfl | rfl | rfl | rfl | rfl | rfl | rfl | rfl | rfl | ⟨n2, n3, n4, n5, n6, n7, n8, n9, n10, n11, n12, n13⟩
  · skip
    · skip
      go_enter Tryz.func165, Tryz.ntmps165
      go_upto_region 1 with fail
      generalize w.alloc (.cells X 86) = w1 at *
      generalize w.heap.size = B at *
      clear HBX
      go_wp2
      go_ret
      exact ⟨ret_bool (by rw [Bool.eq_iff_iff]; simp [wrdM, wordM] <;> try omega), h3⟩
  · skip
    · skip
      go_enter Tryz.func165, Tryz.ntmps165
      go_upto_region 1 with fail
      generalize w.alloc (.cells X 86) = w1 at *
      generalize w.heap.size = B at *
      clear HBX
      go_wp2
      go_ret
      exact ⟨ret_bool (by rw [Bool.eq_iff_iff]; simp [wrdM, wordM] <;> try omega), h3⟩
  · by_cases hz : net = 0
    · subst hz
      go_enter Tryz.func165, Tryz.ntmps165
      go_upto_region 1 with fail
      generalize w.alloc (.cells X 86) = w1 at *
      generalize w.heap.size = B at *
      clear HBX
      go_wp2
      go_ret
      exact ⟨ret_bool (by rw [Bool.eq_iff_iff]; simp [wrdM, wordM] <;> try omega), h3⟩
    · have hz1 : ((net : Int) != 0) = true := by simp; omega
      have HZ : Hid (¬ net = 0) := hz
      clear hz
      go_enter Tryz.func165, Tryz.ntmps165
      go_upto_region 1 with fail
      generalize w.alloc (.cells X 86) = w1 at *
      generalize w.heap.size = B at *
      clear HBX
      go_wp2
      go_ret
      exact ⟨ret_bool (by have := HZ.out; rw [Bool.eq_iff_iff]; simp [wrdM, wordM] <;> try omega), h3⟩
  · by_cases hz : net = 0
    · subst hz
      go_enter Tryz.func165, Tryz.ntmps165
      go_upto_region 1 with fail
      generalize w.alloc (.cells X 86) = w1 at *
      generalize w.heap.size = B at *
      clear HBX
      go_wp2
      go_ret
      exact ⟨ret_bool (by rw [Bool.eq_iff_iff]; simp [wrdM, wordM] <;> try omega), h3⟩
    · have hz1 : ((net : Int) != 0) = true := by simp; omega
      have HZ : Hid (¬ net = 0) := hz
      clear hz
      go_enter Tryz.func165, Tryz.ntmps165
      go_upto_region 1 with fail
      generalize w.alloc (.cells X 86) = w1 at *
      generalize w.heap.size = B at *
      clear HBX
      go_wp2
      go_ret
      exact ⟨ret_bool (by have := HZ.out; rw [Bool.eq_iff_iff]; simp [wrdM, wordM] <;> try omega), h3⟩
  · by_cases hz : net = 4
    · subst hz
      go_enter Tryz.func165, Tryz.ntmps165
      go_upto_region 1 with fail
      generalize w.alloc (.cells X 86) = w1 at *
      generalize w.heap.size = B at *
      clear HBX
      go_wp2
      go_ret
      exact ⟨ret_bool (by rw [Bool.eq_iff_iff]; simp [wrdM, wordM] <;> try omega), h3⟩
    · have hz1 : ((net : Int) == 4) = false := by simp; omega
      have HZ : Hid (¬ net = 4) := hz
      clear hz
      go_enter Tryz.func165, Tryz.ntmps165
      go_upto_region 1 with fail
      generalize w.alloc (.cells X 86) = w1 at *
      generalize w.heap.size = B at *
      clear HBX
      go_wp2
      go_ret
      exact ⟨ret_bool (by have := HZ.out; rw [Bool.eq_iff_iff]; simp [wrdM, wordM] <;> try omega), h3⟩
  · by_cases hz : net = 6
    · subst hz
      go_enter Tryz.func165, Tryz.ntmps165
      go_upto_region 1 with fail
      generalize w.alloc (.cells X 86) = w1 at *
      generalize w.heap.size = B at *
      clear HBX
      go_wp2
      go_ret
      exact ⟨ret_bool (by rw [Bool.eq_iff_iff]; simp [wrdM, wordM] <;> try omega), h3⟩
    · have hz1 : ((net : Int) == 6) = false := by simp; omega
      have HZ : Hid (¬ net = 6) := hz
      clear hz
      go_enter Tryz.func165, Tryz.ntmps165
      go_upto_region 1 with fail
      generalize w.alloc (.cells X 86) = w1 at *
      generalize w.heap.size = B at *
      clear HBX
      go_wp2
      go_ret
      exact ⟨ret_bool (by have := HZ.out; rw [Bool.eq_iff_iff]; simp [wrdM, wordM] <;> try omega), h3⟩
  · skip
    · skip
      go_enter Tryz.func165, Tryz.ntmps165
      go_upto_region 1 with fail
      generalize w.alloc (.cells X 86) = w1 at *
      generalize w.heap.size = B at *
      clear HBX
      go_wp2
      go_ret
      exact ⟨ret_bool (by rw [Bool.eq_iff_iff]; simp [wrdM, wordM] <;> try omega), h3⟩
  · skip
    · skip
      go_enter Tryz.func165, Tryz.ntmps165
      go_upto_region 1 with fail
      generalize w.alloc (.cells X 86) = w1 at *
      generalize w.heap.size = B at *
      clear HBX
      go_wp2
      go_ret
      exact ⟨ret_bool (by rw [Bool.eq_iff_iff]; simp [wrdM, wordM] <;> try omega), h3⟩
  · skip
    · skip
      go_enter Tryz.func165, Tryz.ntmps165
      go_upto_region 1 with fail
      generalize w.alloc (.cells X 86) = w1 at *
      generalize w.heap.size = B at *
      clear HBX
      go_wp2
      go_ret
      exact ⟨ret_bool (by rw [Bool.eq_iff_iff]; simp [wrdM, wordM] <;> try omega), h3⟩
  · skip
    · skip
      go_enter Tryz.func165, Tryz.ntmps165
      go_upto_region 1 with fail
      generalize w.alloc (.cells X 86) = w1 at *
      generalize w.heap.size = B at *
      clear HBX
      go_wp2
      go_ret
      exact ⟨ret_bool (by rw [Bool.eq_iff_iff]; simp [wrdM, wordM] <;> try omega), h3⟩
  · skip
    · skip
      go_enter Tryz.func165, Tryz.ntmps165
      go_upto_region 1 with fail
      generalize w.alloc (.cells X 86) = w1 at *
      generalize w.heap.size = B at *
      clear HBX
      go_wp2
      go_ret
      exact ⟨ret_bool (by rw [Bool.eq_iff_iff]; simp [wrdM, wordM] <;> try omega), h3⟩
  · skip
    · skip
      go_enter Tryz.func165, Tryz.ntmps165
      go_upto_region 1 with fail
      generalize w.alloc (.cells X 86) = w1 at *
      generalize w.heap.size = B at *
      clear HBX
      go_wp2
      go_ret
      exact ⟨ret_bool (by rw [Bool.eq_iff_iff]; simp [wrdM, wordM] <;> try omega), h3⟩
  · have e2 : (k == 2) = false := by simpa using n2
    have e3 : (k == 3) = false := by simpa using n3
    have e4 : (k == 4) = false := by simpa using n4
    have e5 : (k == 5) = false := by simpa using n5
    have e6 : (k == 6) = false := by simpa using n6
    have e7 : (k == 7) = false := by simpa using n7
    have e8 : (k == 8) = false := by simpa using n8
    have e9 : (k == 9) = false := by simpa using n9
    have e10 : (k == 10) = false := by simpa using n10
    have e11 : (k == 11) = false := by simpa using n11
    have e12 : (k == 12) = false := by simpa using n12
    have e13 : (k == 13) = false := by simpa using n13
    have e : wrdM net next proto multi k = false := by simp [wrdM, wordM, n2, n3, n4, n5, n6, n7, n8, n9, n10, n11, n12, n13]
    rw [e]
    clear e n2 n3 n4 n5 n6 n7 n8 n9 n10 n11 n12 n13
    · skip
      go_enter Tryz.func165, Tryz.ntmps165
      go_upto_region 1 with fail
      generalize w.alloc (.cells X 86) = w1 at *
      generalize w.heap.size = B at *
      clear HBX
      go_wp2
      go_ret
      exact ⟨rfl, h3⟩

end Go.Proofs.YtnojpepjloceoaaGreat
